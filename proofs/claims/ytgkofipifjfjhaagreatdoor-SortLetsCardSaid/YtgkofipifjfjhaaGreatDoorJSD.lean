/-
  Contracts of package sort: what a tree in a scope must tell (TermAt); terms.
-/
import Derived.Test.YtgkofipifjfjhaaGreatDoorJSC
import Derived.Test.YtgkofipifjfjhaaGreatDoorJSA
import Derived.Test.YtgkofipifjfjhaaGreatDoorJQC
namespace Go.Proofs.YtgkofipifjfjhaaGreatDoor.Q
set_option linter.unusedSimpArgs false
set_option linter.unusedVariables false
open Go.RowKit

/-- The tables that package sort and what it calls read. -/
def TabS (w : World) : Prop := Tab w ∧ TabW w
theorem TabS.up {w w' : World} (h : TabS w) (e : Ext w w') : TabS w' := ⟨h.1.up e, h.2.up e⟩
/-- A scope in memory: bindings among the blocks p, Sigs. -/
structure Scope (p : Nat → Prop) [DecidablePred p] (w : World) (b : List M.Bd) (l : List M.Sg) (A : Option Addr) (n c : Nat) (SA : Option Addr) (sn sc : Nat) : Prop where
 bds : Bds (gp p w) b (.slice A n c)
 len : n = b.length
 cap : c ≤ 9223372036854775807
 sgs : Sgs w l (.slice SA sn sc)
 nms : ∀ s ∈ l, s.name.length ≤ 1000000000000
 lt : ∀ k, p k → k < w.heap.size
 tab : TabS w
theorem Scope.up {p : Nat → Prop} [DecidablePred p] {w w' : World} {b : List M.Bd} {l : List M.Sg} {A : Option Addr} {n c : Nat} {SA : Option Addr} {sn sc : Nat} (h : Scope p w b l A n c SA sn sc) (e : Ext w w') : Scope p w' b l A n c SA sn sc :=
 ⟨h.bds.sub (gp_up e), h.len, h.cap, h.sgs.up e, h.nms, fun k hk => Nat.lt_of_lt_of_le (h.lt k hk) e.size, h.tab.up e⟩
/-- What the call of term owes, at trees of height n. -/
def TermAt (l : List M.Sg) (n : Nat) : Prop := ∀ (p : Nat → Prop) [DecidablePred p] {b : List M.Bd} {t : M.T} {A SA : Option Addr} {m c sn sc : Nat} {v : Value} {w : World}, Scope p w b l A m c SA sn sc → M.goodB b → IsT w t v → M.txtN t = true → M.hgt t ≤ n → M.cnt t ≤ 400 → b.length + 400 * n ≤ 100000 →
 Calls Tryz.prog 61 #[scv A m c SA sn sc, v] w (GivesTmG p w (M.rd M.barred l n b t))
/-- A call gives terms among the blocks p or on new memory, and an error. -/
def GivesTmsG (p : Nat → Prop) [DecidablePred p] (w : World) (r : List M.Tm × Int) (e : Ending) (w' : World) : Prop := ∃ v, e = .returned (.tuple #[v, .int .i64 r.2]) ∧ Tms (gp (fun b => p b ∨ w.heap.size ≤ b) w') r.1 v ∧ Ext w w'
theorem wpList_appTG {p : Nat → Prop} [DecidablePred p] {base : Nat} {w : World} {ops : Array Oper} {rest : List Oper} {o : Oper} {a : Act} {Q : Exit → Act → World → Prop} (hgd : o.guard = none) (s x : Operand)
 (ho : o.op = .call { callee := .builtin .append, args := #[s, x], argTypes := #[31, 31] }) {v : Value} {l : List M.Tm} {op : Int} {g : Bool} {ls : List Nat} {nm : List UInt8} {so : Int} {ks : List M.Tm} {N A : Option Addr} {nn nc n c gL : Nat} {tL : TypeId}
 (hs : a.eval s = v) (hx : a.eval x = .slice (some ⟨gL, 0, none⟩) 1 1) (h : OwnTG p base w v l) (hL : Box w gL #[.int .i64 op, .bool g, .slice N nn nc, str nm, .int .i64 so, .slice A n c] tL) (hn : LNum (gp (besP p base v) w) (.slice N nn nc) ls) (hk : Tms (gp (besP p base v) w) ks (.slice A n c)) (hlen : l.length + 1 ≤ 1000000) (hbase : base ≤ w.heap.size)
 (hq : ∀ v' w', OwnTG p base w' v' (l ++ [.mk op g ls nm so ks]) → Below base w w' → wpList Tryz.prog ops Q rest (a.put o.dst v') w') : wpList Tryz.prog ops Q (o :: rest) a w := by
 obtain ⟨v', w', hr, h2, h3⟩ := appTG_run h hL hn hk hlen hbase o.type
 refine wpList_plain hgd fun K hK => ?_
 unfold Oper.wp execOp
 simp only [ho, resolve, invoke, builtin, Sem.run_bind, Sem.run_pure, Result.andThen_ok, List.map_toArray, List.map_cons, List.map_nil, hs, hx, hr]
 exact hK _ _ (hq v' w' h2 h3)
theorem IsT.parts {w : World} {l : Bool} {tk : M.Tok} {us : List M.T} {v : Value} (h : IsT w (.mk l tk us) v) : ∃ A c, v = tv l tk A us.length c ∧ Kids w us (.slice A us.length c) := h
/-- Trees of a list, as the walk asks for them. -/
def okKids (n : Nat) (ks : List M.T) : Prop := ∀ t ∈ ks, M.txtN t = true ∧ M.hgt t ≤ n ∧ M.cnt t ≤ 400
set_option maxHeartbeats 8000000 in
set_option maxRecDepth 100000 in
theorem terms_t {l : List M.Sg} {n : Nat} (H : TermAt l n) {p : Nat → Prop} [DecidablePred p] {b : List M.Bd} {ks : List M.T} {A SA : Option Addr} {m c sn sc : Nat} {v : Value} {w : World} (hS : Scope p w b l A m c SA sn sc) (hg : M.goodB b) (hk : Kids w ks v) (ho : okKids n ks) (hlen : ks.length ≤ 1000) (hb : b.length + 400 * n ≤ 100000) :
 Calls Tryz.prog 199 #[scv A m c SA sn sc, v] w (GivesTmsG p w (M.mapE (M.rd M.barred l n b) ks)) := by
 obtain ⟨KA, kc, rfl⟩ := hk.shape
 obtain ⟨hl1, hl2, hl3⟩ := hk.le
 have hl4 : kc ≤ 9223372036854775807 := by unfold maxLen at hl3; omega
 obtain ⟨f, hf⟩ : ∃ f, M.rd M.barred l n b = f := ⟨_, rfl⟩
 obtain ⟨N, hN⟩ : ∃ N, ks.length = N := ⟨_, rfl⟩
 have HC := hid (show ∀ (t : M.T) (u : Value) (w' : World), t ∈ ks → Ext w w' → IsT w' t u → Calls Tryz.prog 61 #[scv A m c SA sn sc, u] w' (GivesTmG p w' (f t)) from fun t u w' ht e hu => hf ▸ H p (hS.up e) hg hu (ho t ht).1 (ho t ht).2.1 (ho t ht).2.2 hb)
 have HLT := hid hS.lt
 have HF := hid (show ∀ t, M.okR (f t) from fun t => hf ▸ M.rd_ok _ _ _ _ _ hg)
 rw [hf]
 rw [hN] at hk hl2 hlen ⊢
 have HK := hid hk
 have HN := hid hN
 obtain ⟨R, hR⟩ : ∃ R, M.mapE f ks = R := ⟨_, rfl⟩
 rw [hR]
 have HR := hid hR
 clear H hS hg hk ho hb hl1 hl3 hf hN hR
 have HB0 := hid (Box.new w #[.slice A m c, .slice SA sn sc] 104)
 go_enter Tryz.func199, Tryz.ntmps199
 go_wp2_with fail
 go_loopw [6, 13] (fun x i wr => ∃ k : Nat, k ≤ N ∧ i = .int .i64 k ∧ Hid (OwnTG p (w.heap.size + 1) wr x ((ks.take k).map fun t => (f t).1) ∧ (∀ t ∈ ks.take k, (f t).2 = 0) ∧ Ext (w.alloc (.cells #[.slice A m c, .slice SA sn sc] 104)) wr)) (fun _ i _ => N - (intOf i).toNat)
 case atStart => exact ⟨0, Nat.zero_le _, rfl, hid ⟨OwnTG.nil _ _ _, fun t ht => by simp at ht, Ext.refl _⟩⟩
 case round =>
  obtain ⟨k, hk, rfl, hRR⟩ := hrel
  have EB := hid hRR.out.2.2
  have E := hid ((Ext.alloc w (.cells #[.slice A m c, .slice SA sn sc] 104)).trans hRR.out.2.2)
  have HZ := hid hRR.out.2.1
  obtain ⟨L, hL⟩ : ∃ L, (ks.take k).map (fun t => (f t).1) = L := ⟨_, rfl⟩
  have hO := hRR.out.1
  rw [hL] at hO
  have HL := hid hL
  have HLK := hid (show L.length = k by rw [← HL.out, List.length_map, List.length_take, HN.out]; omega)
  obtain ⟨IA, ic, rfl, -, -⟩ := hO.shape
  obtain ⟨q, hq⟩ : ∃ q, L.length = q := ⟨_, rfl⟩
  rw [hq] at hO ⊢
  have HQ := hid hq
  have HO := hid hO
  have HB := hid (HB0.out.up EB.out)
  have HS1 := hid (show w.heap.size + 1 ≤ wr.heap.size by have := EB.out.size; simpa using this)
  clear hRR hL hO hq
  have b0 := HB.out.k 0
  have b1 := HB.out.k 1
  rcases Nat.lt_or_ge k N with hlt | hge
  ·have hlt' : (k : Int) < (N : Int) := by omega
   obtain ⟨ad, u, B, d, rfl, hu, c0, c1, c2, c3, hv⟩ := (HK.out.up E.out).get hlt
   have HU := hid hu
   have hmem := List.mem_of_getElem? hu
   have HFU := hid (HF.out u)
   obtain ⟨⟨TM, er⟩, hr⟩ : ∃ r, f u = r := ⟨_, rfl⟩
   obtain ⟨td, htd⟩ : ∃ td, TM.kids.length = td := ⟨_, rfl⟩
   have HCU := hid (show ∀ w', Ext wr w' → Calls Tryz.prog 61 #[scv A m c SA sn sc, tv u.list u.tok B u.kids.length d] w' (GivesTmG p w' (TM, er)) from fun w' e => hr ▸ HC.out u _ w' hmem (E.out.trans e) (hv.up e))
   have HRU := hid hr
   obtain ⟨ul, ⟨uk, ux⟩, us⟩ := u
   obtain ⟨um, hum⟩ : ∃ um, us.length = um := ⟨_, rfl⟩
   replace c0 : wr.cell? (ad.add (k * 4)) = some (.bool ul) := c0
   replace c1 : wr.cell? ⟨(ad.add (k * 4)).block, (ad.add (k * 4)).off + 1, none⟩ = some (.int .i64 uk) := c1
   replace c2 : wr.cell? ⟨(ad.add (k * 4)).block, (ad.add (k * 4)).off + 2, none⟩ = some (str ux) := c2
   replace c3 : wr.cell? ⟨(ad.add (k * 4)).block, (ad.add (k * 4)).off + 3, none⟩ = some (.slice B us.length d) := c3
   replace HCU : Hid (∀ w', Ext wr w' → Calls Tryz.prog 61 #[scv A m c SA sn sc, tv ul (uk, ux) B us.length d] w' (GivesTmG p w' (TM, er))) := HCU
   rw [hum] at c3 HCU
   have b0' := fun o => (Ext.alloc wr o).cell b0
   have b1' := fun o => (Ext.alloc wr o).cell b1
   clear hu hmem hr hv hum
   go_wp2_with fail
   refine (HCU.out _ (Ext.alloc _ _)).mono ?_
   rintro e w1 ⟨v1, rfl, hv1, hx⟩
   have hfar := HO.out.far (fun y hy => Nat.lt_succ_of_lt (HLT.out y hy)) HS1.out (Ext.alloc wr _).size hv1
   obtain ⟨TN, tnn, tnc, TA, tc, rfl, htn, htk⟩ := hv1
   replace htn : LNum (gp (besP p (w.heap.size + 1) (.slice IA q ic)) w1) (.slice TN tnn tnc) TM.ls ∧ Tms (gp (besP p (w.heap.size + 1) (.slice IA q ic)) w1) TM.kids (.slice TA TM.kids.length tc) := hfar.num
   have htd' : (TM, er).1.kids.length = td := htd
   rw [htd] at htn
   rw [htd']
   have HTN := hid htn
   have E1 := hid (show Ext wr w1 from (Ext.alloc wr _).trans hx)
   have hsz := hid (show w.heap.size + 1 ≤ w1.heap.size from Nat.le_trans HS1.out E1.out.size)
   dsimp only
   clear hfar htn htk hx htd htd' b0 b1 b0' b1' c0 c1 c2 c3
   by_cases her : er = 0
   ·subst her
    go_wp2_with (at_builtin; refine wpList_appTG rfl (.tmp 26) (.tmp 28) rfl (p := p) (base := w.heap.size + 1) (l := L) (op := TM.op) (g := TM.g) (ls := TM.ls) (nm := TM.name) (so := TM.sort) (ks := TM.kids) (N := TN) (A := TA) (nn := tnn) (nc := tnc) (n := td) (c := tc) (gL := w1.heap.size + 1) (tL := 33) rfl rfl ?own ?box ?num ?kid ?len ?base ?_)
    case own => exact HO.out.up ((E1.out.alloc' _).alloc' _)
    case box => exact Box.at_ (w := w1.alloc _) _ _ (by simp)
    case num => exact HTN.out.1.sub (gp_ext (alloc_two w1 _ _))
    case kid => exact HTN.out.2.sub (gp_ext (alloc_two w1 _ _))
    case len => have := HLK.out; omega
    case base => have := hsz.out; simp; omega
    intro v' w5 hO5 hB5
    have HO5 := hid hO5
    have HB5 := hid (show Ext (w.alloc (.cells #[.slice A m c, .slice SA sn sc] 104)) w5 from
     Below.trans (B := (w.alloc (.cells #[.slice A m c, .slice SA sn sc] 104)).heap.size) (((EB.out.trans E1.out).alloc' _).alloc' _) (by rw [World.size_alloc]; exact hB5))
    clear hO5 hB5
    go_wp2_with fail
    go_roundw
    case rel => exact ⟨k + 1, by omega, by simp, hid ⟨by
     rw [List.take_add_one, HU.out, List.map_append, HL.out]
     have : (Option.toList (some (M.T.mk ul (uk, ux) us))).map (fun t => (f t).1) = [TM] := by simp [HRU.out]
     rw [this, M.Tm.eta TM]
     exact HO5.out, fun t ht => by
     rw [List.take_add_one, HU.out] at ht
     simp only [List.mem_append, Option.toList_some, List.mem_singleton] at ht
     rcases ht with ht | rfl
     ·exact HZ.out t ht
     ·rw [HRU.out], HB5.out⟩⟩
    case measure => simp [intOf]; omega
   ·have hq : (er != 0) = true := by simpa using her
    have HRR := hid (show R = ([], er) by
     have := M.mapE_err (f := f) (fun t ht => HZ.out t ht) HU.out (by rw [HRU.out]; exact her)
     rw [← HR.out, this, HRU.out])
    have E5 := hid (show Ext w w1 from E.out.trans E1.out)
    clear her
    go_wp2_with fail
    refine bodyPost_ret (v := .tuple #[.slice none 0 0, .int .i64 er]) (by simp [results, Tryz.results199, go_sem]) rfl ?_
    rw [HRR.out]
    exact ⟨_, rfl, Tms.nil _, E5.out.alloc' _⟩
  ·obtain rfl : k = N := by omega
   have HRR := hid (show R = (L, 0) by
    have h1 : ks.take k = ks := List.take_of_length_le (by rw [HN.out]; exact Nat.le_refl _)
    have h2 := HZ.out
    rw [h1] at h2
    rw [← HR.out, M.mapE_ok h2, ← HL.out, h1])
   have HT := hid (HO.out.tms.sub (gp_mono (q := fun y => p y ∨ w.heap.size ≤ y) (Nat.le_refl _) fun y _ hy => ⟨hy.imp id (fun h => by omega), rfl⟩))
   clear b0 b1
   go_wp2_with fail
   refine bodyPost_ret (v := .tuple #[.slice IA q ic, .int .i64 0]) (by simp [results, Tryz.results199, go_sem]) rfl ?_
   rw [HRR.out]
   exact ⟨_, rfl, HT.out, E.out⟩
end Go.Proofs.YtgkofipifjfjhaaGreatDoor.Q

/-
  Contracts of package sort: operation, application, symbol.
-/
namespace Go.Proofs.YtgkofipifjfjhaaGreatDoor.Q
set_option linter.unusedSimpArgs false
set_option linter.unusedVariables false
open Go.RowKit

/-- The two boxes that a function of a scope begins with. -/
theorem scope_boxes (w : World) (x0 x1 : Value) : Box ((w.alloc (.cells #[x0, x1] 104)).alloc (.cells zero6 33)) w.heap.size #[x0, x1] 104 ∧ Box ((w.alloc (.cells #[x0, x1] 104)).alloc (.cells zero6 33)) (w.heap.size + 1) zero6 33 ∧ Ext w ((w.alloc (.cells #[x0, x1] 104)).alloc (.cells zero6 33)) :=
 ⟨(Box.new w _ _).alloc _, Box.at_ (w := w.alloc _) _ _ (by simp), alloc_two w _ _⟩
set_option maxHeartbeats 8000000 in
theorem operation_t {l : List M.Sg} {n : Nat} (H : TermAt l n) {p : Nat → Prop} [DecidablePred p] {b : List M.Bd} {ks : List M.T} {A SA : Option Addr} {m c sn sc op : Nat} {v : Value} {w : World} (hS : Scope p w b l A m c SA sn sc) (hg : M.goodB b) (hk : Kids w ks v) (ho : okKids n ks) (hlen : ks.length ≤ 1000) (hb : b.length + 400 * n ≤ 100000) :
 Calls Tryz.prog 156 #[scv A m c SA sn sc, .int .i64 (op : Int), v] w (GivesTmG p w (M.rop (M.rd M.barred l n b) op ks)) := by
 have HF := hid (M.mapE_few (f := M.rd M.barred l n b) (l := ks) fun t _ => M.rd_ok _ _ _ _ _ hg)
 obtain ⟨⟨RL, er⟩, hR⟩ : ∃ R, M.mapE (M.rd M.barred l n b) ks = R := ⟨_, rfl⟩
 have HC := hid (show ∀ w', Ext w w' → Calls Tryz.prog 199 #[scv A m c SA sn sc, v] w' (GivesTmsG p w' (RL, er)) from fun w' e => hR ▸ terms_t H (hS.up e) hg (hk.up e) ho hlen hb)
 have HX := hid (show M.rop (M.rd M.barred l n b) op ks = if er ≠ 0 then (M.K0, er) else M.kmake (op : Int) RL by unfold M.rop; rw [hR])
 rw [hR] at HF
 obtain ⟨X, hX⟩ : ∃ X, M.rop (M.rd M.barred l n b) op ks = X := ⟨_, rfl⟩
 rw [hX] at HX ⊢
 have HLT := hid hS.lt
 have HT := hid hS.tab
 obtain ⟨KA, kc, rfl⟩ := hk.shape
 obtain ⟨N, hN⟩ : ∃ N, ks.length = N := ⟨_, rfl⟩
 rw [hN] at HC ⊢
 obtain ⟨hb0, hb1, he⟩ := scope_boxes w (.slice A m c) (.slice SA sn sc)
 have HB0 := hid hb0
 have HB1 := hid hb1
 have HE := hid he
 clear H hS hg hk ho hb hR hX hN hb0 hb1 he hlen
 go_enter Tryz.func156, Tryz.ntmps156
 go_wp2_with fail
 refine (HC.out _ HE.out).mono ?_
 rintro e w1 ⟨v1, rfl, hv1, hx⟩
 have hsz : w.heap.size + 1 < w1.heap.size := Nat.lt_of_lt_of_le (by simp) hx.size
 obtain ⟨RA, rc, rfl⟩ := hv1.shape
 dsimp only
 dsimp only at hv1
 obtain ⟨rn, hrn⟩ : ∃ rn, RL.length = rn := ⟨_, rfl⟩
 rw [hrn] at hv1 ⊢
 have HV1 := hid (hv1.sub (gp_sub _ _))
 have E1 := hid (HE.out.trans hx)
 have HR1 := hid (HB1.out.up hx)
 have HSZ := hid hsz
 clear hv1 hx hsz hrn
 by_cases her : er = 0
 ·subst her
  replace HX := hid (show X = M.kmake (op : Int) RL from HX.out)
  have HM := hid (make_tn (op := (op : Int)) HV1.out HF.out (HT.out.up E1.out).1)
  go_wp2_with fail
  refine HM.out.mono ?_
  rintro e w2 ⟨v2, rfl, hv, hx⟩
  have HV := hid (fun x0 x1 x2 x3 x4 x5 => give_put (x0 := x0) (x1 := x1) (x2 := x2) (x3 := x3) (x4 := x4) (x5 := x5) (p := p) (B := w.heap.size) (give_new hv) HLT.out (Nat.le_succ _) HSZ.out)
  obtain ⟨N2, nn2, nc2, A2, n2, c2, rfl, -, -, -, -, -, -⟩ := hv.shape
  obtain ⟨⟨r0, r1, r2, r3, r4, r5⟩, ⟨f0, f1, f2, f3, f4, f5⟩, hzr⟩ := boxF6 (HR1.out.up hx)
  have E2 := hid (E1.out.trans hx)
  clear hv hx
  go_wp2_with fail
  refine bodyPost_ret (v := .tuple #[kv (M.kmake (op : Int) RL).1.op (M.kmake (op : Int) RL).1.g N2 nn2 nc2 (M.kmake (op : Int) RL).1.name (M.kmake (op : Int) RL).1.sort A2 n2 c2, .int .i64 (M.kmake (op : Int) RL).2]) (by simp [results, Tryz.results156, go_sem, r0, r1, r2, r3, r4, r5, hzr]) rfl ?_
  rw [HX.out]
  exact ⟨_, rfl, HV.out _ _ _ _ _ _, put6_ext E2.out (Nat.le_succ _)⟩
 ·replace HX := hid (show X = (M.K0, er) by rw [HX.out, if_pos her])
  have hq : (er != 0) = true := by simpa using her
  obtain ⟨⟨r0, r1, r2, r3, r4, r5⟩, ⟨f0, f1, f2, f3, f4, f5⟩, hzr⟩ := boxF6 HR1.out
  clear her
  go_wp2_with fail
  refine bodyPost_ret (v := .tuple #[kv 0 false none 0 0 [] 0 none 0 0, .int .i64 er]) (by simp [results, Tryz.results156, go_sem, r0, r1, r2, r3, r4, r5, hzr]) rfl ?_
  rw [HX.out]
  exact ⟨_, rfl, IsTm.zero _, put6_ext E1.out (Nat.le_succ _)⟩
theorem scope_boxes3 (w : World) (x0 x1 x2 : Value) : Box (((w.alloc (.cells #[x0, x1] 104)).alloc (.cells #[x2] 9)).alloc (.cells zero6 33)) w.heap.size #[x0, x1] 104 ∧ Box (((w.alloc (.cells #[x0, x1] 104)).alloc (.cells #[x2] 9)).alloc (.cells zero6 33)) (w.heap.size + 1) #[x2] 9 ∧ Box (((w.alloc (.cells #[x0, x1] 104)).alloc (.cells #[x2] 9)).alloc (.cells zero6 33)) (w.heap.size + 2) zero6 33 ∧ Ext w (((w.alloc (.cells #[x0, x1] 104)).alloc (.cells #[x2] 9)).alloc (.cells zero6 33)) :=
 ⟨((Box.new w _ _).alloc _).alloc _, (Box.at_ (w := w.alloc _) _ _ (by simp)).alloc _, Box.at_ (w := (w.alloc _).alloc _) _ _ (by simp), (alloc_two w _ _).alloc' _⟩
set_option maxHeartbeats 8000000 in
set_option maxRecDepth 100000 in
theorem application_t {l : List M.Sg} {n : Nat} (H : TermAt l n) {p : Nat → Prop} [DecidablePred p] {b : List M.Bd} {ks : List M.T} {s : List UInt8} {A SA : Option Addr} {m c sn sc : Nat} {v : Value} {w : World} (hS : Scope p w b l A m c SA sn sc) (hg : M.goodB b) (hk : Kids w ks v) (ho : okKids n ks) (hlen : ks.length ≤ 1000) (hb : b.length + 400 * n ≤ 100000) :
 Calls Tryz.prog 159 #[scv A m c SA sn sc, str s, v] w (GivesTmG p w (M.rapp (M.rd M.barred l n b) l s ks)) := by
 have HF := hid (M.mapE_few (f := M.rd M.barred l n b) (l := ks) fun t _ => M.rd_ok _ _ _ _ _ hg)
 obtain ⟨⟨RL, er⟩, hR⟩ : ∃ R, M.mapE (M.rd M.barred l n b) ks = R := ⟨_, rfl⟩
 have HC := hid (show ∀ w', Ext w w' → Calls Tryz.prog 199 #[scv A m c SA sn sc, v] w' (GivesTmsG p w' (RL, er)) from fun w' e => hR ▸ terms_t H (hS.up e) hg (hk.up e) ho hlen hb)
 have HX := hid (show M.rapp (M.rd M.barred l n b) l s ks = match M.sgOf l s with | none => (M.K0, 16) | some g => if er ≠ 0 then (M.K0, er) else M.kapp g RL by unfold M.rapp; rw [hR]; cases M.sgOf l s <;> rfl)
 rw [hR] at HF
 obtain ⟨X, hX⟩ : ∃ X, M.rapp (M.rd M.barred l n b) l s ks = X := ⟨_, rfl⟩
 rw [hX] at HX ⊢
 have HLT := hid hS.lt
 have HT := hid hS.tab
 have HSG := hid hS.sgs
 have HNM := hid hS.nms
 have hsl := hS.sgs.le
 obtain ⟨KA, kc, rfl⟩ := hk.shape
 obtain ⟨N, hN⟩ : ∃ N, ks.length = N := ⟨_, rfl⟩
 rw [hN] at HC ⊢
 obtain ⟨hb0, hb1, hb2, he⟩ := scope_boxes3 w (.slice A m c) (.slice SA sn sc) (str s)
 have HB0 := hid hb0
 have HB1 := hid hb1
 have HB2 := hid hb2
 have HE := hid he
 obtain ⟨hs1, hs2, hs3⟩ := hsl
 have HSN := hid hs1
 clear hs1
 clear H hS hg hk ho hb hR hX hN hb0 hb1 hb2 he hlen
 have hmf : ∀ (fn : Fn) (first cap : Array Value) (w : World), (Instr.makeFunc fn first cap).run Tryz.prog w = .ok (.func fn first cap) w := fun _ _ _ _ => rfl
 go_enter Tryz.func159, Tryz.ntmps159
 go_upto_region 1 with (fail)
 refine swp_at (fun W => Box W w.heap.size #[.slice A m c, .slice SA sn sc] 104 ∧ Box W (w.heap.size + 1) #[str s] 9 ∧ Box W (w.heap.size + 2) zero6 33 ∧ Ext w W) ⟨HB0.out, HB1.out, HB2.out, HE.out⟩ ?_
 intro W ⟨hb0, hb1, hb2, he⟩
 have HI := hid (indexS_t (HSG.out.up he) (hb1.k 0))
 have b0 := hb0.k 0
 have b1 := hb0.k 1
 clear HB0 HB1 HB2 HE
 have HB0 := hid hb0
 have HB2 := hid hb2
 have HE := hid he
 clear hb0 hb1 hb2 he
 go_wp2_with fail
 refine HI.out.mono ?_
 rintro e w1 ⟨z, rfl, hz, hx⟩
 have E1 := hid (HE.out.trans hx)
 replace HB0 := hid (HB0.out.up hx)
 replace HB2 := hid (HB2.out.up hx)
 clear b0 b1
 have HZ := hid hz.out
 clear hx hz HI HE
 rcases HZ.out with ⟨rfl, hno⟩ | ⟨k, g, rfl, hg, hsg⟩
 ·replace HX := hid (show X = (M.K0, 16) by rw [HX.out, hno])
  obtain ⟨⟨r0, r1, r2, r3, r4, r5⟩, ⟨f0, f1, f2, f3, f4, f5⟩, hzr⟩ := boxF6 HB2.out
  clear hno
  go_wp2_with fail
  refine bodyPost_ret (v := .tuple #[kv 0 false none 0 0 [] 0 none 0 0, .int .i64 16]) (by simp [results, Tryz.results159, go_sem, r0, r1, r2, r3, r4, r5, hzr]) rfl ?_
  rw [HX.out]
  exact ⟨_, rfl, IsTm.zero _, put6_ext E1.out (by omega)⟩
 ·replace HX := hid (show X = if er ≠ 0 then (M.K0, er) else M.kapp g RL by rw [HX.out, hsg])
  have hkn : k < sn := by rw [HSN.out]; exact (List.getElem?_eq_some_iff.1 hg).1
  have hkn' : (k : Int) < (sn : Int) := by omega
  have hk0 : decide ((k : Int) < 0) = false := by simp
  have HG := hid hg
  have b0 := HB0.out.k 0
  have b1 := HB0.out.k 1
  clear hg hsg
  go_wp2_with fail
  refine (HC.out _ E1.out).mono ?_
  rintro e w2 ⟨v2, rfl, hv2, hx⟩
  have hsz : w.heap.size + 2 < w2.heap.size := Nat.lt_of_lt_of_le HB2.out.lt hx.size
  obtain ⟨RA, rc, rfl⟩ := hv2.shape
  dsimp only
  dsimp only at hv2
  obtain ⟨rn, hrn⟩ : ∃ rn, RL.length = rn := ⟨_, rfl⟩
  rw [hrn] at hv2 ⊢
  have HV2 := hid (hv2.sub (gp_sub _ _))
  have E2 := hid (E1.out.trans hx)
  replace HB0 := hid (HB0.out.up hx)
  replace HB2 := hid (HB2.out.up hx)
  have HSZ := hid hsz
  clear hv2 hx hsz hrn b0 b1
  by_cases her : er = 0
  ·subst her
   replace HX := hid (show X = M.kapp g RL from HX.out)
   obtain ⟨ad, g', B, d, rfl, hg', ⟨c0, c1, c2⟩, hgv⟩ := (HSG.out.up E2.out).get hkn
   obtain rfl : g = g' := Option.some.inj (HG.out.symm.trans hg')
   obtain ⟨ga, hga⟩ : ∃ ga, g.args.length = ga := ⟨_, rfl⟩
   rw [hga] at c1 hgv
   have b0 := HB0.out.k 0
   have b1 := HB0.out.k 1
   have HM := hid (app_tn hgv (HNM.out g (List.mem_of_getElem? HG.out)) HV2.out HF.out (HT.out.up E2.out).1)
   clear hg' hgv hga
   go_wp2_with fail
   refine HM.out.mono ?_
   rintro e w3 ⟨v3, rfl, hv, hx⟩
   have HV := hid (fun x0 x1 x2 x3 x4 x5 => give_put (k := w.heap.size + 2) (x0 := x0) (x1 := x1) (x2 := x2) (x3 := x3) (x4 := x4) (x5 := x5) (p := p) (B := w.heap.size) (give_new hv) HLT.out (by omega) HSZ.out)
   obtain ⟨N2, nn2, nc2, A2, n2, c2', rfl, -, -, -, -, -, -⟩ := hv.shape
   obtain ⟨⟨r0, r1, r2, r3, r4, r5⟩, ⟨f0, f1, f2, f3, f4, f5⟩, hzr⟩ := boxF6 (HB2.out.up hx)
   have E3 := hid (E2.out.trans hx)
   clear hv hx c0 c1 c2 b0 b1
   go_wp2_with fail
   refine bodyPost_ret (v := .tuple #[kv (M.kapp g RL).1.op (M.kapp g RL).1.g N2 nn2 nc2 (M.kapp g RL).1.name (M.kapp g RL).1.sort A2 n2 c2', .int .i64 (M.kapp g RL).2]) (by simp [results, Tryz.results159, go_sem, r0, r1, r2, r3, r4, r5, hzr]) rfl ?_
   rw [HX.out]
   exact ⟨_, rfl, HV.out _ _ _ _ _ _, put6_ext E3.out (by omega)⟩
  ·replace HX := hid (show X = (M.K0, er) by rw [HX.out, if_pos her])
   have hq : (er != 0) = true := by simpa using her
   obtain ⟨⟨r0, r1, r2, r3, r4, r5⟩, ⟨f0, f1, f2, f3, f4, f5⟩, hzr⟩ := boxF6 HB2.out
   clear her
   go_wp2_with fail
   refine bodyPost_ret (v := .tuple #[kv 0 false none 0 0 [] 0 none 0 0, .int .i64 er]) (by simp [results, Tryz.results159, go_sem, r0, r1, r2, r3, r4, r5, hzr]) rfl ?_
   rw [HX.out]
   exact ⟨_, rfl, IsTm.zero _, put6_ext E2.out (by omega)⟩
end Go.Proofs.YtgkofipifjfjhaaGreatDoor.Q

/-
  Contracts of package sort: symbol.
-/
namespace Go.Proofs.YtgkofipifjfjhaaGreatDoor.Q
set_option linter.unusedSimpArgs false
set_option linter.unusedVariables false
open Go.RowKit

theorem give_old {p : Nat → Prop} [DecidablePred p] {S : Nat} {w1 : World} {t : M.Tm} {v : Value} (h : IsTm (gp p w1) t v) : IsTm (gp (fun b => p b ∨ S ≤ b) w1) t v :=
 h.sub (gp_mono (Nat.le_refl _) fun b _ h2 => ⟨.inl h2, rfl⟩)
set_option maxHeartbeats 8000000 in
theorem symbol_t {l : List M.Sg} {n : Nat} (H : TermAt l n) {p : Nat → Prop} [DecidablePred p] {b : List M.Bd} {s : List UInt8} {A SA : Option Addr} {m c sn sc : Nat} {w : World} (hS : Scope p w b l A m c SA sn sc) (hg : M.goodB b) (hb : b.length + 400 * n ≤ 100000) :
 Calls Tryz.prog 108 #[scv A m c SA sn sc, str s] w (GivesTmG p w (M.rsym (M.rd M.barred l n b) l b s)) := by
 have HLT := hid hS.lt
 have HT := hid hS.tab
 have HAP := hid (show ∀ w', Ext w w' → Calls Tryz.prog 159 #[scv A m c SA sn sc, str s, .slice none 0 0] w' (GivesTmG p w' (M.rapp (M.rd M.barred l n b) l s [])) from fun w' e => application_t H (hS.up e) hg (Kids.nil w') (fun t ht => by cases ht) (by simp) hb)
 have HBI := hid (show ∀ w', Ext w w' → Calls Tryz.prog 158 #[scv A m c SA sn sc, str s] w' (GivesBd p w' (M.bindOf b s)) from fun w' e => binds_t (hS.up e).bds hS.len (by have := hS.len; omega) hS.cap)
 obtain ⟨X, hX⟩ : ∃ X, M.rsym (M.rd M.barred l n b) l b s = X := ⟨_, rfl⟩
 have hX' : X = if s = M.bTrue then (M.kboolT true, 0) else if s = M.bFalse then (M.kboolT false, 0) else match M.bindOf b s with | some t => (t, 0) | none => M.rapp (M.rd M.barred l n b) l s [] := by rw [← hX]; rfl
 rw [hX]
 obtain ⟨hb0, hb1, he⟩ := scope_boxes w (.slice A m c) (.slice SA sn sc)
 have HB0 := hid hb0
 have HB1 := hid hb1
 have HE := hid he
 obtain ⟨Y, hY⟩ : ∃ Y, M.rapp (M.rd M.barred l n b) l s [] = Y := ⟨_, rfl⟩
 rw [hY] at HAP hX'
 clear H hS hg hb hX hb0 hb1 he hY
 by_cases hs1 : s = M.bTrue
 ·have HX := hid (show X = (M.kboolT true, 0) by rw [hX', if_pos hs1])
  clear hX'
  obtain rfl : s = [116, 114, 117, 101] := hs1
  have HM := hid (fun w' => bool_tn true w')
  go_enter Tryz.func108, Tryz.ntmps108
  go_wp2_with fail
  refine (HM.out _).mono ?_
  rintro e w1 ⟨v1, rfl, hv, hx⟩
  have HV := hid (fun x0 x1 x2 x3 x4 x5 => give_put (k := w.heap.size + 1) (x0 := x0) (x1 := x1) (x2 := x2) (x3 := x3) (x4 := x4) (x5 := x5) (p := p) (B := w.heap.size) (give_new hv) HLT.out (Nat.le_succ _) HB1.out.lt)
  obtain ⟨N2, nn2, nc2, A2, n2, c2, rfl, -, -, -, -, -, -⟩ := hv.shape
  obtain ⟨⟨r0, r1, r2, r3, r4, r5⟩, ⟨f0, f1, f2, f3, f4, f5⟩, hzr⟩ := boxF6 (HB1.out.up hx)
  have E2 := hid (HE.out.trans hx)
  clear hv hx
  go_wp2_with fail
  refine bodyPost_ret (v := .tuple #[kv _ _ N2 nn2 nc2 _ _ A2 n2 c2, .int .i64 0]) (by simp [results, Tryz.results108, go_sem, r0, r1, r2, r3, r4, r5, hzr]; exact ⟨rfl, rfl, rfl, rfl⟩) rfl ?_
  rw [HX.out]
  exact ⟨_, rfl, HV.out _ _ _ _ _ _, put6_ext E2.out (Nat.le_succ _)⟩
 have hn1 : (s == [116, 114, 117, 101]) = false := by simpa [M.bTrue] using hs1
 by_cases hs2 : s = M.bFalse
 ·have HX := hid (show X = (M.kboolT false, 0) by rw [hX', if_neg hs1, if_pos hs2])
  clear hX' hs1 hn1
  obtain rfl : s = [102, 97, 108, 115, 101] := hs2
  have HM := hid (fun w' => bool_tn false w')
  go_enter Tryz.func108, Tryz.ntmps108
  go_wp2_with fail
  refine (HM.out _).mono ?_
  rintro e w1 ⟨v1, rfl, hv, hx⟩
  have HV := hid (fun x0 x1 x2 x3 x4 x5 => give_put (k := w.heap.size + 1) (x0 := x0) (x1 := x1) (x2 := x2) (x3 := x3) (x4 := x4) (x5 := x5) (p := p) (B := w.heap.size) (give_new hv) HLT.out (Nat.le_succ _) HB1.out.lt)
  obtain ⟨N2, nn2, nc2, A2, n2, c2, rfl, -, -, -, -, -, -⟩ := hv.shape
  obtain ⟨⟨r0, r1, r2, r3, r4, r5⟩, ⟨f0, f1, f2, f3, f4, f5⟩, hzr⟩ := boxF6 (HB1.out.up hx)
  have E2 := hid (HE.out.trans hx)
  clear hv hx
  go_wp2_with fail
  refine bodyPost_ret (v := .tuple #[kv _ _ N2 nn2 nc2 _ _ A2 n2 c2, .int .i64 0]) (by simp [results, Tryz.results108, go_sem, r0, r1, r2, r3, r4, r5, hzr]; exact ⟨rfl, rfl, rfl, rfl⟩) rfl ?_
  rw [HX.out]
  exact ⟨_, rfl, HV.out _ _ _ _ _ _, put6_ext E2.out (Nat.le_succ _)⟩
 have hn2 : (s == [102, 97, 108, 115, 101]) = false := by simpa [M.bFalse] using hs2
 replace hX' : X = match M.bindOf b s with | some t => (t, 0) | none => Y := by rw [hX', if_neg hs1, if_neg hs2]
 clear hs1 hs2
 obtain ⟨r, hr⟩ : ∃ r, M.bindOf b s = r := ⟨_, rfl⟩
 rw [hr] at HBI hX'
 clear hr
 rcases r with _ | TM
 ·have HX := hid (show X = Y from hX')
  clear hX'
  go_enter Tryz.func108, Tryz.ntmps108
  go_wp2_with fail
  refine (HBI.out _ HE.out).mono ?_
  rintro e w1 ⟨v1, rfl, hv, hx⟩
  obtain ⟨N1, nn1, nc1, A1, c1, rfl, -, -⟩ := hv
  have E1 := hid (HE.out.trans hx)
  have b0 := fun o => (Ext.alloc w1 o).cell ((HB0.out.up hx).k 0)
  have b1 := fun o => (Ext.alloc w1 o).cell ((HB0.out.up hx).k 1)
  have HR := hid ((HB1.out.up hx).alloc (.cells #[.int .i64 (M.Tm.op M.K0), .bool (M.Tm.g M.K0), .slice N1 nn1 nc1, str (M.Tm.name M.K0), .int .i64 (M.Tm.sort M.K0), .slice A1 (M.Tm.kids M.K0).length c1] 33))
  clear hx
  dsimp only [Option.getD, Option.isSome]
  go_wp2_with fail
  refine (HAP.out _ (E1.out.alloc' _)).mono ?_
  rintro e w2 ⟨v2, rfl, hv, hx⟩
  have HSZ := hid (show w.heap.size + 1 < _ from HR.out.lt)
  have HV := hid (fun x0 x1 x2 x3 x4 x5 => give_put (k := w.heap.size + 1) (x0 := x0) (x1 := x1) (x2 := x2) (x3 := x3) (x4 := x4) (x5 := x5) (p := p) (B := w.heap.size) hv HLT.out (Nat.le_succ _) HSZ.out)
  obtain ⟨N2, nn2, nc2, A2, n2, c2, rfl, -, -, -, -, -, -⟩ := hv.shape
  obtain ⟨⟨r0, r1, r2, r3, r4, r5⟩, ⟨f0, f1, f2, f3, f4, f5⟩, hzr⟩ := boxF6 (HR.out.up hx)
  have E2 := hid ((E1.out.alloc' _).trans hx)
  clear hv hx b0 b1
  go_wp2_with fail
  refine bodyPost_ret (v := .tuple #[kv Y.1.op Y.1.g N2 nn2 nc2 Y.1.name Y.1.sort A2 n2 c2, .int .i64 Y.2]) (by simp [results, Tryz.results108, go_sem, r0, r1, r2, r3, r4, r5, hzr]) rfl ?_
  rw [HX.out]
  exact ⟨_, rfl, HV.out _ _ _ _ _ _, put6_ext E2.out (Nat.le_succ _)⟩
 ·have HX := hid (show X = (TM, 0) from hX')
  clear hX'
  go_enter Tryz.func108, Tryz.ntmps108
  go_wp2_with fail
  refine (HBI.out _ HE.out).mono ?_
  rintro e w1 ⟨v1, rfl, hv, hx⟩
  have hv' : IsTm (gp p w1) TM v1 := hv
  obtain ⟨N1, nn1, nc1, A1, c1, rfl, hn, hk⟩ := hv'
  have E1 := hid (HE.out.trans hx)
  obtain ⟨td, htd⟩ : ∃ td, TM.kids.length = td := ⟨_, rfl⟩
  have HR := hid ((HB1.out.up hx).alloc (.cells #[.int .i64 TM.op, .bool TM.g, .slice N1 nn1 nc1, str TM.name, .int .i64 TM.sort, .slice A1 td c1] 33))
  have hv2 := hid (show IsTm (gp (fun y => p y ∨ (w1.alloc (.cells #[.int .i64 TM.op, .bool TM.g, .slice N1 nn1 nc1, str TM.name, .int .i64 TM.sort, .slice A1 td c1] 33)).heap.size ≤ y) (w1.alloc (.cells #[.int .i64 TM.op, .bool TM.g, .slice N1 nn1 nc1, str TM.name, .int .i64 TM.sort, .slice A1 td c1] 33))) TM (kv TM.op TM.g N1 nn1 nc1 TM.name TM.sort A1 td c1) from give_old (by rw [htd] at hv; exact hv.sub (gp_ext (Ext.alloc w1 _))))
  have HV := hid (fun x0 x1 x2 x3 x4 x5 => give_put (k := w.heap.size + 1) (x0 := x0) (x1 := x1) (x2 := x2) (x3 := x3) (x4 := x4) (x5 := x5) (p := p) (B := w.heap.size) hv2.out HLT.out (Nat.le_succ _) HR.out.lt)
  obtain ⟨⟨r0, r1, r2, r3, r4, r5⟩, ⟨f0, f1, f2, f3, f4, f5⟩, hzr⟩ := boxF6 HR.out
  rw [htd]
  clear hv hx hn hk htd
  go_wp2_with fail
  refine bodyPost_ret (v := .tuple #[kv TM.op TM.g N1 nn1 nc1 TM.name TM.sort A1 td c1, .int .i64 0]) (by simp [results, Tryz.results108, go_sem, r0, r1, r2, r3, r4, r5, hzr]) rfl ?_
  rw [HX.out]
  exact ⟨_, rfl, HV.out _ _ _ _ _ _, put6_ext (E1.out.alloc' _) (Nat.le_succ _)⟩
end Go.Proofs.YtgkofipifjfjhaaGreatDoor.Q

/-
  Contracts of package sort: let.
-/
namespace Go.Proofs.YtgkofipifjfjhaaGreatDoor.Q
set_option linter.unusedSimpArgs false
set_option linter.unusedVariables false
open Go.RowKit

/-- A tree as the walk asks for it. -/
def okT (n : Nat) (t : M.T) : Prop := M.txtN t = true ∧ M.hgt t ≤ n ∧ M.cnt t ≤ 400
theorem okT.kid {n : Nat} {t u : M.T} {k : Nat} (h : okT (n + 1) t) (hu : t.kids[k]? = some u) : okT n u := by
 obtain ⟨l, tk, ks⟩ := t
 obtain ⟨h1, h2, h3⟩ := h
 replace hu : ks[k]? = some u := hu
 rw [M.txtN, Bool.and_eq_true] at h1
 rw [M.hgt] at h2
 rw [M.cnt] at h3
 have := M.hgts_at hu
 have := M.cnts_at hu
 exact ⟨M.txtNs_at h1.2 hu, by omega, by omega⟩
theorem okT.mono {n m : Nat} {t : M.T} (h : okT n t) (hm : n ≤ m) : okT m t := ⟨h.1, by have := h.2.1; omega, h.2.2⟩
theorem okT.kids {n : Nat} {t : M.T} (h : okT (n + 1) t) : okKids n t.kids := fun u hu => by
 obtain ⟨k, hk⟩ := List.mem_iff_getElem?.1 hu
 exact h.kid hk
theorem okT.len {n : Nat} {t : M.T} (h : okT n t) : t.kids.length < 400 := by
 obtain ⟨l, tk, ks⟩ := t
 have h3 := h.2.2
 rw [M.cnt] at h3
 have := M.cnts_len ks
 show ks.length < 400
 omega
theorem okKids.pTree {n : Nat} {ks : List M.T} (h : okKids n ks) (hp : ks.all M.pairT = true) : okKids n (ks.map M.pTree) := by
 intro t ht
 obtain ⟨u, hu, rfl⟩ := List.mem_map.1 ht
 have h1 := List.all_eq_true.1 hp u hu
 unfold M.pairT at h1
 simp only [Bool.and_eq_true, decide_eq_true_iff] at h1
 obtain ⟨x, hx⟩ : ∃ x, u.kids[1]? = some x := ⟨_, List.getElem?_eq_getElem (by omega)⟩
 unfold M.pTree
 rw [tkid_of hx]
 exact okT.kid (okT.mono (h u hu) (Nat.le_succ _)) hx
theorem M.paired_all {t : M.T} (h : M.pairedT t = true) : t.kids ≠ [] ∧ t.kids.all M.pairT = true := by
 unfold M.pairedT at h
 simp only [Bool.and_eq_true, Bool.not_eq_true', List.isEmpty_eq_false_iff] at h
 exact h
theorem M.mapE_length {α : Type} {f : α → M.Tm × Int} {l : List α} (h : (M.mapE f l).2 = 0) : (M.mapE f l).1.length = l.length := by
 rw [(M.mapE_len h).2, List.length_map]
set_option maxHeartbeats 16000000 in
set_option maxRecDepth 100000 in
theorem let_t {l : List M.Sg} {n : Nat} (H : TermAt l n) {p : Nat → Prop} [DecidablePred p] {b : List M.Bd} {ks : List M.T} {A SA : Option Addr} {m c sn sc : Nat} {v : Value} {w : World} (hS : Scope p w b l A m c SA sn sc) (hg : M.goodB b) (hk : Kids w ks v) (ho : okKids n ks) (hb : b.length + 400 * (n + 1) ≤ 100000) :
 Calls Tryz.prog 157 #[scv A m c SA sn sc, v] w (GivesTmG p w (M.rlet (M.rd M.barred l n) b ks)) := by
 obtain ⟨KA, kc, rfl⟩ := hk.shape
 obtain ⟨hl1, hl2, hl3⟩ := hk.le
 have hl4 : kc ≤ 9223372036854775807 := by unfold maxLen at hl3; omega
 obtain ⟨N, hN⟩ : ∃ N, ks.length = N := ⟨_, rfl⟩
 obtain ⟨X, hX⟩ : ∃ X, M.rlet (M.rd M.barred l n) b ks = X := ⟨_, rfl⟩
 rw [hN] at hk hl2 ⊢
 rw [hX]
 have HLT := hid hS.lt
 obtain ⟨hb0, hb1, he⟩ := scope_boxes w (.slice A m c) (.slice SA sn sc)
 have HB0 := hid hb0
 have HB1 := hid hb1
 have HE := hid he
 have HS := hid hS
 have HK := hid hk
 have HG := hid hg
 have HO := hid ho
 have HN := hid hN
 have HX0 := hid hX
 have HBL := hid hb
 have HH := hid H
 clear hb0 hb1 he hS hk hg ho hN hX hb H hl1 hl3
 go_enter Tryz.func157, Tryz.ntmps157
 go_upto_region 1 with (fail)
 refine swp_at (fun W => Box W w.heap.size #[.slice A m c, .slice SA sn sc] 104 ∧ Box W (w.heap.size + 1) zero6 33 ∧ Ext w W) ⟨HB0.out, HB1.out, HE.out⟩ ?_
 intro W ⟨hb0, hb1, he⟩
 clear HB0 HB1 HE
 have HB0 := hid hb0
 have HB1 := hid hb1
 have HE := hid he
 have HSZ := hid hb1.lt
 clear hb0 hb1 he
 by_cases h2 : N = 2
 ·subst h2
  obtain ⟨ad, q, B, d, rfl, hq, ⟨c0, c1, c2, c3⟩, hqv⟩ := (HK.out.up HE.out).at0 (by decide)
  obtain ⟨ad', t, B', d', ead, ht, ⟨e0, e1, e2, e3⟩, htv⟩ := (HK.out.up HE.out).at1 (by decide)
  injection ead with ead
  subst ead
  have hks : ks = [q, t] := by
   have := HN.out
   match ks, this, hq, ht with
   | [a, b], _, hq, ht => simp at hq ht; rw [hq, ht]
  have hX' : X = if M.pairedT q = false then (M.K0, 10) else if M.freeN (q.kids.map M.pName) = false then (M.K0, 16) else
   if (M.mapE (M.rd M.barred l n b) (q.kids.map M.pTree)).2 ≠ 0 then (M.K0, (M.mapE (M.rd M.barred l n b) (q.kids.map M.pTree)).2) else M.rd M.barred l n (b ++ (q.kids.map M.pName).zip (M.mapE (M.rd M.barred l n b) (q.kids.map M.pTree)).1) t := by
   rw [← HX0.out, hks]; rfl
  have hoq : okT n q := HO.out q (by rw [hks]; simp)
  have hot : okT n t := HO.out t (by rw [hks]; simp)
  obtain ⟨ql, ⟨qk, qx⟩, qs⟩ := q
  obtain ⟨tl, ⟨tk, tx⟩, tt⟩ := t
  obtain ⟨hqs, -⟩ := T.kv hqv
  obtain ⟨pm, hpm⟩ : ∃ pm, qs.length = pm := ⟨_, rfl⟩
  obtain ⟨tm, htm⟩ : ∃ tm, tt.length = tm := ⟨_, rfl⟩
  replace c0 : W.cell? ad = some (.bool ql) := c0
  replace c1 : W.cell? ⟨ad.block, ad.off + 1, none⟩ = some (.int .i64 qk) := c1
  replace c2 : W.cell? ⟨ad.block, ad.off + 2, none⟩ = some (str qx) := c2
  replace c3 : W.cell? ⟨ad.block, ad.off + 3, none⟩ = some (.slice B qs.length d) := c3
  replace e0 : W.cell? ⟨ad.block, ad.off + 4, none⟩ = some (.bool tl) := e0
  replace e1 : W.cell? ⟨ad.block, ad.off + 4 + 1, none⟩ = some (.int .i64 tk) := e1
  replace e2 : W.cell? ⟨ad.block, ad.off + 4 + 2, none⟩ = some (str tx) := e2
  replace e3 : W.cell? ⟨ad.block, ad.off + 4 + 3, none⟩ = some (.slice B' tt.length d') := e3
  replace hqv : IsT W (.mk ql (qk, qx) qs) (tv ql (qk, qx) B qs.length d) := hqv
  replace htv : IsT W (.mk tl (tk, tx) tt) (tv tl (tk, tx) B' tt.length d') := htv
  rw [hpm] at c3 hqv hqs
  rw [htm] at e3 htv
  have hpl : pm < 400 := hpm ▸ hoq.len
  have hokq : okKids n qs := (hoq.mono (Nat.le_succ _)).kids
  obtain ⟨z1, hz1⟩ : ∃ z1, M.pairedT (.mk ql (qk, qx) qs) = z1 := ⟨_, rfl⟩
  have HP := hid (show ∀ w', Ext W w' → Calls Tryz.prog 201 #[tv ql (qk, qx) B pm d] w' (GivesB w' z1) from fun w' e => hz1 ▸ paired_t _ (hqv.up e))
  have HC3 := hid c3
  have HT0 := hid e0
  have HT1 := hid e1
  have HT2 := hid e2
  have HT3 := hid e3
  have HTV := hid htv
  have HOT := hid hot
  clear hks hq ht HX0 hoq HK HN hqv htv hot e0 e1 e2 e3
  cases z1
  ·have HX := hid (show X = (M.K0, 10) by rw [hX', if_pos hz1])
   clear hX' hz1 hpm hqs hpl hokq
   go_wp2_with fail
   refine (HP.out _ (Ext.refl _)).mono ?_
   rintro e w1 ⟨rfl, hx⟩
   obtain ⟨⟨r0, r1, r2, r3, r4, r5⟩, ⟨f0, f1, f2, f3, f4, f5⟩, hzr⟩ := boxF6 (HB1.out.up hx)
   have E1 := hid (HE.out.trans hx)
   clear hx c0 c1 c2 c3
   go_wp2_with fail
   refine bodyPost_ret (v := .tuple #[kv 0 false none 0 0 [] 0 none 0 0, .int .i64 10]) (by simp [results, Tryz.results157, go_sem, r0, r1, r2, r3, r4, r5, hzr]) rfl ?_
   rw [HX.out]
   exact ⟨_, rfl, IsTm.zero _, put6_ext E1.out (Nat.le_succ _)⟩
  ·obtain ⟨hne, hall⟩ := M.paired_all hz1
   replace hne : qs ≠ [] := hne
   replace hall : qs.all M.pairT = true := hall
   have hpm0 : 0 < pm := by
    rw [← hpm]; exact List.length_pos_iff.2 hne
   rw [if_neg (by rw [hz1]; decide)] at hX'
   replace hX' : X = if M.freeN (qs.map M.pName) = false then (M.K0, 16) else
    if (M.mapE (M.rd M.barred l n b) (qs.map M.pTree)).2 ≠ 0 then (M.K0, (M.mapE (M.rd M.barred l n b) (qs.map M.pTree)).2) else M.rd M.barred l n (b ++ (qs.map M.pName).zip (M.mapE (M.rd M.barred l n b) (qs.map M.pTree)).1) (.mk tl (tk, tx) tt) := hX'
   have HHV := hid (show ∀ w', Ext W w' → Calls Tryz.prog 202 #[.slice B pm d] w' (GivesH w' (qs.map M.pName) (qs.map M.pTree)) from fun w' e => halves_t (hqs.up e) hall (by omega))
   have hokp : okKids n (qs.map M.pTree) := hokq.pTree hall
   have hlp : (qs.map M.pTree).length = pm := by rw [List.length_map, hpm]
   have hln : (qs.map M.pName).length = pm := by rw [List.length_map, hpm]
   obtain ⟨NS, hNS⟩ : ∃ NS, qs.map M.pName = NS := ⟨_, rfl⟩
   obtain ⟨TS, hTS⟩ : ∃ TS, qs.map M.pTree = TS := ⟨_, rfl⟩
   rw [hNS] at hX' HHV hln
   rw [hTS] at hX' HHV hlp hokp
   obtain ⟨z2, hz2⟩ : ∃ z2, M.freeN NS = z2 := ⟨_, rfl⟩
   obtain ⟨⟨RL, er⟩, hR⟩ : ∃ R, M.mapE (M.rd M.barred l n b) TS = R := ⟨_, rfl⟩
   rw [hR] at hX'
   have HRL := hid (show er = 0 → RL.length = pm from fun h0 => by
    have := M.mapE_length (f := M.rd M.barred l n b) (l := TS) (by rw [hR]; exact h0)
    rw [hR] at this
    rw [← hlp]; exact this)
   have HGZ := hid (show M.goodB (b ++ NS.zip RL) from HG.out.zip _ (by
    have := M.mapE_ok_all (f := M.rd M.barred l n b) (l := TS) fun t _ => M.rd_ok _ _ _ _ _ HG.out
    rw [hR] at this
    exact this))
   have HTE := hid (show ∀ w' v', Ext w w' → Kids w' TS v' → Calls Tryz.prog 199 #[scv A m c SA sn sc, v'] w' (GivesTmsG p w' (RL, er)) from fun w' v' e hv' => hR ▸ terms_t HH.out (HS.out.up e) HG.out hv' hokp (by omega) (by have := HBL.out; omega))
   have HFR := hid (show ∀ w' v', Nms w' NS v' → TabS w' → Calls Tryz.prog 203 #[v'] w' (GivesB w' z2) from fun w' v' h1 h2 => hz2 ▸ free_t h1 h2.2)
   have HLP := hid hlp
   have HLN := hid hln
   have HPM := hid hpm0
   have HPL := hid hpl
   rw [hz2] at hX'
   have HX1 := hid hX'
   clear hX' hR hz2 hNS hTS hlp hln hpm0 hpl hokp hall hne hz1 hokq hqs hpm
   go_wp2_with fail
   refine (HP.out _ (Ext.refl _)).mono ?_
   rintro e w1 ⟨rfl, hx⟩
   have c3' := hx.cell c3
   have E1 := hid hx
   clear hx c0 c1 c2 c3 HP
   go_wp2_with fail
   refine (HHV.out _ E1.out).mono ?_
   rintro e w2 ⟨v1, v2, rfl, hv1, hv2, hx⟩
   have E2 := hid (E1.out.trans hx)
   obtain ⟨NA, nc, rfl⟩ := hv1.shape
   obtain ⟨TA, tc, rfl⟩ := hv2.shape
   rw [HLN.out] at hv1
   rw [HLP.out] at hv2
   simp only [HLN.out, HLP.out]
   have HV1 := hid hv1
   have HV2 := hid hv2
   clear hx hv1 hv2 c3' HHV
   go_wp2_with fail
   refine (HFR.out _ _ HV1.out (HS.out.tab.up (HE.out.trans E2.out))).mono ?_
   rintro e w3 ⟨rfl, hx⟩
   have E23 := hid hx
   have E3 := hid (E2.out.trans hx)
   clear hx
   cases z2
   ·have HX := hid (show X = (M.K0, 16) by rw [HX1.out, if_pos rfl])
    obtain ⟨⟨r0, r1, r2, r3, r4, r5⟩, ⟨f0, f1, f2, f3, f4, f5⟩, hzr⟩ := boxF6 (HB1.out.up E3.out)
    go_wp2_with fail
    refine bodyPost_ret (v := .tuple #[kv 0 false none 0 0 [] 0 none 0 0, .int .i64 16]) (by simp [results, Tryz.results157, go_sem, r0, r1, r2, r3, r4, r5, hzr]) rfl ?_
    rw [HX.out]
    exact ⟨_, rfl, IsTm.zero _, put6_ext (HE.out.trans E3.out) (Nat.le_succ _)⟩
   ·have HX2 := hid (show X = if er ≠ 0 then (M.K0, er) else M.rd M.barred l n (b ++ NS.zip RL) (.mk tl (tk, tx) tt) by rw [HX1.out, if_neg (by decide)])
    have b0 := (HB0.out.up E3.out).k 0
    have b1 := (HB0.out.up E3.out).k 1
    clear HX1
    go_wp2_with fail
    refine (HTE.out _ _ (HE.out.trans E3.out) (HV2.out.up E23.out)).mono ?_
    rintro e w4 ⟨v4, rfl, hv4, hx⟩
    obtain ⟨RA, rc, rfl⟩ := hv4.shape
    have HV4 := hid hv4
    have E34 := hid hx
    have E4 := hid (E3.out.trans hx)
    dsimp only
    clear hv4 hx b0 b1 HTE
    by_cases her : er = 0
    ·subst her
     have hrl : RL.length = pm := HRL.out rfl
     replace HX2 := hid (show X = M.rd M.barred l n (b ++ NS.zip RL) (.mk tl (tk, tx) tt) from HX2.out)
     simp only [hrl]
     have HV4' := hid (show Tms (gp (fun b => p b ∨ w3.heap.size ≤ b) w4) RL (.slice RA pm rc) from hrl ▸ HV4.out)
     clear HRL hrl HV4
     go_wp2_with fail
     refine wp_region_D [(0, 0), (1, 0), (2, 0), (4, 0), (5, 0), (6, 0), (3, 1), (7, 1), (8, 0), (9, 0), (10, 4), (11, 5)] fun wd hb => ?_
     have Ed := hid (E4.out.trans hb)
     have E4d := hid hb
     have k0 := (HB0.out.up Ed.out).k 0
     have k1 := (HB0.out.up Ed.out).k 1
     have t0 := Ed.out.cell HT0.out
     have t1 := Ed.out.cell HT1.out
     have t2 := Ed.out.cell HT2.out
     have t3 := Ed.out.cell HT3.out
     clear hb
     refine WE.q 43 (.agg #[.slice A m c, .slice SA sn sc]) rfl (fun w' hk => by have ce := hk.cell k0; have cf := hk.cell k1; go_simp) ?_
     simp only [Act.put, pA, pB, pC]
     refine WE.p 44 (.slice NA pm nc) ?_
     simp only [Act.put, pA, pB, pC]
     refine WE.p 45 (.slice RA pm rc) ?_
     simp only [Act.put, pA, pB, pC]
     refine WE.p 47 (.slice (some ad) 2 kc) ?_
     simp only [Act.put, pA, pB, pC]
     refine WE.p 48 (.pointer (some ⟨ad.block, ad.off + 4, none⟩)) ?_
     simp only [Act.put, pA, pB, pC]
     refine WE.q 49 (tv tl (tk, tx) B' tm d') rfl (fun w' hk => by have g0 := hk.cell t0; have g1 := hk.cell t1; have g2 := hk.cell t2; have g3 := hk.cell t3; go_simp) ?_
     simp only [Act.put, pA, pB, pC]
     clear k0 k1 t0 t1 t2 t3
     have hlow := HLT.out
     have hsz := HSZ.out
     have hsW := HE.out.size
     have hs4 := E4.out.size
     have hs3 := E3.out.size
     have hs4d := E4d.out.size
     have hm4 : Tms (gp (fun k => p k ∨ (W.heap.size ≤ k ∧ k < wd.heap.size)) wd) RL (.slice RA pm rc) := HV4'.out.sub (gp_mono hs4d fun k hk h => ⟨h.imp id (fun h => by omega), E4d.out.block k hk⟩)
     have hwi := within_t (p := fun k => p k ∨ (W.heap.size ≤ k ∧ k < wd.heap.size)) (w := wd) ((HS.out.bds.sub (gp_up (HE.out.trans Ed.out))).sub (gp_mono (q := fun k => p k ∨ (W.heap.size ≤ k ∧ k < wd.heap.size)) (Nat.le_refl _) fun k _ h => ⟨.inl h, rfl⟩)) HS.out.len (HV1.out.up (E23.out.trans (E34.out.trans E4d.out))) hm4 (SA := SA) (sn := sn) (sc := sc) HPM.out (by have := HBL.out; have := HS.out.len; have := HPL.out; omega) (fun k hk => by
      rcases hk with hk | hk
      ·have := hlow k hk; omega
      ·exact hk.2)
     refine WE.c 46 (hwi.mono ?_)
     rintro e w5 ⟨A5, c5, rfl, hb5, hx5⟩
     refine ⟨_, rfl, hx5, ?_⟩
     have hs5 := hx5.size
     have E5 := hid (Ed.out.trans hx5)
     obtain ⟨A5', c5', he5, hc5, hc5'⟩ := hb5.shape
     injection he5 with he1 he2 he3
     subst he1 he3
     have hsc : Scope (fun k => p k ∨ (W.heap.size ≤ k ∧ k < w5.heap.size)) w5 (b ++ NS.zip RL) l A5 (b ++ NS.zip RL).length c5 SA sn sc :=
      ⟨hb5.sub (gp_mono (Nat.le_refl _) fun k hk h => ⟨by rcases h with (h | h) | h <;> first | exact .inl h | exact .inr ⟨by omega, by omega⟩, rfl⟩), rfl, hc5', HS.out.sgs.up (HE.out.trans E5.out), HS.out.nms, fun k hk => by
       rcases hk with hk | hk
       ·have := hlow k hk; omega
       ·exact hk.2, HS.out.tab.up (HE.out.trans E5.out)⟩
     have hot := HOT.out
     have hlz : (b ++ NS.zip RL).length + 400 * n ≤ 100000 := by
      have := HBL.out
      have := HPL.out
      have := HLN.out
      rw [List.length_append, List.length_zip]
      omega
     have htc := HH.out _ hsc HGZ.out (HTV.out.up E5.out) hot.1 hot.2.1 hot.2.2 hlz
     obtain ⟨bl, hbl⟩ : ∃ bl, (b ++ NS.zip RL).length = bl := ⟨_, rfl⟩
     rw [hbl] at htc ⊢
     simp only [Act.put, pA, pB, pC]
     refine WE.c 50 (htc.mono ?_)
     rintro e w6 ⟨v6, rfl, hv, hx6⟩
     refine ⟨_, rfl, hx6, ?_⟩
     have hs6 := hx6.size
     replace hv : IsTm (gp (fun k => p k ∨ W.heap.size ≤ k) w6) (M.rd M.barred l n (b ++ NS.zip RL) (.mk tl (tk, tx) tt)).1 v6 := hv.sub (gp_mono (Nat.le_refl _) fun k hk h => ⟨by rcases h with (h | h) | h <;> first | exact .inl h | exact .inr (by omega), rfl⟩)
     have HV := hid (fun x0 x1 x2 x3 x4 x5 => give_put (k := w.heap.size + 1) (x0 := x0) (x1 := x1) (x2 := x2) (x3 := x3) (x4 := x4) (x5 := x5) (p := p) (B := w.heap.size) hv HLT.out (Nat.le_succ _) HSZ.out)
     obtain ⟨N2, nn2, nc2, A2, n2, c2', rfl, -, -, -, -, -, -⟩ := hv.shape
     have E6 := hid (E5.out.trans hx6)
     obtain ⟨⟨r0, r1, r2, r3, r4, r5⟩, ⟨f0, f1, f2, f3, f4, f5⟩, hzr⟩ := boxF6 (HB1.out.up E6.out)
     obtain ⟨⟨Y, ye⟩, hY⟩ : ∃ Y, M.rd M.barred l n (b ++ NS.zip RL) (.mk tl (tk, tx) tt) = Y := ⟨_, rfl⟩
     rw [hY] at HX2 HV
     simp only [hY]
     clear hv hx6 hx5 hb5 hsc htc hwi hm4
     simp only [Act.put, pA, pB, pC]
     refine WE.p 51 (kv Y.op Y.g N2 nn2 nc2 Y.name Y.sort A2 n2 c2') ?_
     simp only [Act.put, pA, pB, pC]
     refine WE.p 52 (.int .i64 ye) ?_
     simp only [Act.put, pA, pB, pC]
     refine WE.store (w' := put6 w6 (w.heap.size + 1) (.int .i64 Y.op) (.bool Y.g) (.slice N2 nn2 nc2) (str Y.name) (.int .i64 Y.sort) (.slice A2 n2 c2')) rfl rfl (by rfl) (by go_simp) (by simp [put6]) ?_
     refine WE.y 5 (.int .i64 ye) ?_
     refine WE.done ?_
     simp only [Act.put, pA, pB, pC]
     go_wp2_with fail
     refine bodyPost_ret (v := .tuple #[kv Y.op Y.g N2 nn2 nc2 Y.name Y.sort A2 n2 c2', .int .i64 ye]) (by simp [results, Tryz.results157, go_sem, r0, r1, r2, r3, r4, r5, hzr]) rfl ?_
     rw [HX2.out]
     exact ⟨_, rfl, HV.out _ _ _ _ _ _, put6_ext (HE.out.trans E6.out) (Nat.le_succ _)⟩
    ·replace HX2 := hid (show X = (M.K0, er) by rw [HX2.out, if_pos her])
     have hq : (er != 0) = true := by simpa using her
     obtain ⟨rn, hrn⟩ : ∃ rn, RL.length = rn := ⟨_, rfl⟩
     simp only [hrn]
     obtain ⟨⟨r0, r1, r2, r3, r4, r5⟩, ⟨f0, f1, f2, f3, f4, f5⟩, hzr⟩ := boxF6 (HB1.out.up E4.out)
     clear her hrn
     go_wp2_with fail
     refine bodyPost_ret (v := .tuple #[kv 0 false none 0 0 [] 0 none 0 0, .int .i64 er]) (by simp [results, Tryz.results157, go_sem, r0, r1, r2, r3, r4, r5, hzr]) rfl ?_
     rw [HX2.out]
     exact ⟨_, rfl, IsTm.zero _, put6_ext (HE.out.trans E4.out) (Nat.le_succ _)⟩
 ·have HX := hid (show X = (M.K0, 10) by
   rw [← HX0.out]
   unfold M.rlet
   have hn := HN.out
   split
   ·simp at hn; omega
   ·rfl)
  have hq : ((N : Int) != 2) = true := by simp; omega
  obtain ⟨⟨r0, r1, r2, r3, r4, r5⟩, ⟨f0, f1, f2, f3, f4, f5⟩, hzr⟩ := boxF6 HB1.out
  clear h2
  go_wp2_with fail
  refine bodyPost_ret (v := .tuple #[kv 0 false none 0 0 [] 0 none 0 0, .int .i64 10]) (by simp [results, Tryz.results157, go_sem, r0, r1, r2, r3, r4, r5, hzr]) rfl ?_
  rw [HX.out]
  exact ⟨_, rfl, IsTm.zero _, put6_ext HE.out (Nat.le_succ _)⟩
end Go.Proofs.YtgkofipifjfjhaaGreatDoor.Q

/-
  Contracts of package sort: list.
-/
namespace Go.Proofs.YtgkofipifjfjhaaGreatDoor.Q
set_option linter.unusedSimpArgs false
set_option linter.unusedVariables false
open Go.RowKit

theorem slice_from4 {A : Option Addr} {n c k : Nat} (hk : k ≤ n) (w : World) :
 (Instr.slice 24 (.slice A n c) (some (.int .i64 (k : Int))) none none).run Tryz.prog w = .ok (.slice (if c = k then A else A.map (·.add (k * 4))) (n - k) (c - k)) w := by
 obtain ⟨i0, hi, hz0, hz1, hz2⟩ := info_parts info_Tree
 simp [Instr.slice, run_underlying Tryz.underlying24, Instr.sliceBounds, run_sliceBound, sizeOf, typeInfo, hi, hz1, hk]
theorem Kids.tail {w : World} {h : M.T} {r : List M.T} {A : Option Addr} {n c : Nat} (hk : Kids w (h :: r) (.slice A (n + 1) (c + 1))) :
 ∃ A', Kids w r (.slice A' n c) ∧ ∀ w', (Instr.slice 24 (.slice A (n + 1) (c + 1)) (some (.int .i64 1)) none none).run Tryz.prog w' = .ok (.slice A' n c) w' := by
 refine ⟨if c + 1 = 1 then A else A.map (·.add (1 * 4)), ?_, fun w' => ?_⟩
 ·obtain ⟨A', n', c', e, h2, h3, h4, h5⟩ := hk.at_
  injection e with e1 e2 e3
  subst e1 e2 e3
  refine Kids.mk_ ⟨_, _, _, rfl, by simp at h2; exact h2, by omega, by omega, fun hne => ?_⟩
  obtain ⟨ad, ha, hb, hc⟩ := h5 (by simp)
  have hr : 0 < r.length := List.length_pos_iff.2 hne
  have hc0 : c + 1 ≠ 1 := by simp at h2; omega
  rw [if_neg hc0, ha]
  refine ⟨_, rfl, by show (ad.add (1 * 4)).block < _; unfold Addr.add; split <;> exact hb, fun j s hj => ?_⟩
  have := hc (j + 1) s (by simpa using hj)
  rwa [Addr.add_add, show 1 * 4 + j * 4 = (j + 1) * 4 by omega]
 ·exact slice_from4 (k := 1) (by omega) w'
theorem exec_slice1 {A A' : Option Addr} {n c n' c' : Nat} {o : Oper} {ρ : Operand → Value} {w : World} (x : Operand) (ho : o.op = .slice 24 x (some (.const (.int .i64 1))) none none) (hx : ρ x = .slice A n c) (hc : ρ (.const (.int .i64 1)) = .int .i64 1)
 (h : ∀ w', (Instr.slice 24 (.slice A n c) (some (.int .i64 1)) none none).run Tryz.prog w' = .ok (.slice A' n' c') w') : (execOp ρ o).run Tryz.prog w = .ok (.value (.slice A' n' c')) w := by
 unfold execOp
 simp only [ho]
 simp [hx, hc, h, go_sem]
set_option maxHeartbeats 16000000 in
set_option maxRecDepth 100000 in
theorem list_t {l : List M.Sg} {n : Nat} (H : TermAt l n) {p : Nat → Prop} [DecidablePred p] {b : List M.Bd} {ks : List M.T} {A SA : Option Addr} {m c sn sc : Nat} {v : Value} {w : World} (hS : Scope p w b l A m c SA sn sc) (hg : M.goodB b) (hk : Kids w ks v) (ho : okKids n ks) (hlen : ks.length ≤ 1000) (hb : b.length + 400 * (n + 1) ≤ 100000) :
 Calls Tryz.prog 106 #[scv A m c SA sn sc, v] w (GivesTmG p w (M.rlist M.barred l (M.rd M.barred l n) b ks)) := by
 obtain ⟨KA, kc, rfl⟩ := hk.shape
 obtain ⟨hl1, hl2, hl3⟩ := hk.le
 have hl4 : kc ≤ 9223372036854775807 := by unfold maxLen at hl3; omega
 obtain ⟨X, hX⟩ : ∃ X, M.rlist M.barred l (M.rd M.barred l n) b ks = X := ⟨_, rfl⟩
 rw [hX]
 have HLT := hid hS.lt
 have HTB := hid hS.tab
 obtain ⟨hb0, hb1, he⟩ := scope_boxes w (.slice A m c) (.slice SA sn sc)
 have HB0 := hid hb0
 have HB1 := hid hb1
 have HE := hid he
 have HK := hid hk
 have HOP := hid (fun (op : Nat) (w' : World) (r : List M.T) (v' : Value) (e : Ext w w') (hr : Kids w' r v') (hok : okKids n r) (hl : r.length ≤ 1000) => operation_t (op := op) H (hS.up e) hg hr hok hl (by omega))
 have HAP := hid (fun (s : List UInt8) (w' : World) (r : List M.T) (v' : Value) (e : Ext w w') (hr : Kids w' r v') (hok : okKids n r) (hl : r.length ≤ 1000) => application_t (s := s) H (hS.up e) hg hr hok hl (by omega))
 have HLE := hid (fun (w' : World) (r : List M.T) (v' : Value) (e : Ext w w') (hr : Kids w' r v') (hok : okKids n r) => let_t H (hS.up e) hg hr hok hb)
 have HBI := hid (fun (s : List UInt8) (w' : World) (e : Ext w w') => binds_t (s := s) (SA := SA) (sn := sn) (sc := sc) (hS.up e).bds hS.len (by have := hS.len; omega) hS.cap)
 clear hb0 hb1 he hS hg hb H hl1 hl3
 cases ks with
 | nil =>
  have HX := hid (show X = (M.K0, 10) by rw [← hX]; rfl)
  clear HK hk ho hX HOP HAP HLE HBI hlen
  go_enter Tryz.func106, Tryz.ntmps106
  go_upto_region 1 with (fail)
  refine swp_at (fun W => Box W (w.heap.size + 1) zero6 33 ∧ Ext w W) ⟨HB1.out, HE.out⟩ ?_
  intro W ⟨hb1, he⟩
  obtain ⟨⟨r0, r1, r2, r3, r4, r5⟩, ⟨f0, f1, f2, f3, f4, f5⟩, hzr⟩ := boxF6 hb1
  clear HB0 HB1 HE hb1
  have HE := hid he
  clear he
  go_wp2_with fail
  refine bodyPost_ret (v := .tuple #[kv 0 false none 0 0 [] 0 none 0 0, .int .i64 10]) (by simp [results, Tryz.results106, go_sem, r0, r1, r2, r3, r4, r5, hzr]) rfl ?_
  rw [HX.out]
  exact ⟨_, rfl, IsTm.zero _, put6_ext HE.out (Nat.le_succ _)⟩
 | cons h r =>
  obtain ⟨rn, hrn⟩ : ∃ rn, r.length = rn := ⟨_, rfl⟩
  have hll : (h :: r).length = rn + 1 := by rw [List.length_cons, hrn]
  rw [hll] at hk hl2 hlen ⊢
  obtain ⟨kr, rfl⟩ : ∃ kr, kc = kr + 1 := ⟨kc - 1, by omega⟩
  obtain ⟨RA, htail, hslice⟩ := hk.tail
  have hoh : okT n h := ho h (by simp)
  have hor : okKids n r := fun t ht => ho t (List.mem_cons_of_mem _ ht)
  have HX0 := hid hX
  have HOR := hid hor
  have HRT := hid htail
  have HSL := hid hslice
  have HRL := hid (show r.length ≤ 1000 by omega)
  obtain ⟨ad, h', B, d, rfl, hh, ⟨c0, c1, c2, c3⟩, hv⟩ := hk.at0 (by omega)
  obtain rfl : h = h' := by simpa using hh
  obtain ⟨hl, ⟨hkd, hx⟩, hs⟩ := h
  replace c0 : w.cell? ad = some (.bool hl) := c0
  replace c1 : w.cell? ⟨ad.block, ad.off + 1, none⟩ = some (.int .i64 hkd) := c1
  replace c2 : w.cell? ⟨ad.block, ad.off + 2, none⟩ = some (str hx) := c2
  replace c3 : w.cell? ⟨ad.block, ad.off + 3, none⟩ = some (.slice B hs.length d) := c3
  replace hv : IsT w (.mk hl (hkd, hx) hs) (tv hl (hkd, hx) B hs.length d) := hv
  obtain ⟨hm, hhm⟩ : ∃ hm, hs.length = hm := ⟨_, rfl⟩
  rw [hhm] at c3 hv
  obtain ⟨z1, hz1⟩ : ∃ z1, M.isSymT (.mk hl (hkd, hx) hs) = z1 := ⟨_, rfl⟩
  have HSY := hid (show ∀ w', Ext w w' → Calls Tryz.prog 155 #[tv hl (hkd, hx) B hm d] w' (GivesB w' z1) from fun w' e => hz1 ▸ symbolic_t _ (hv.up e))
  have hX1 : X = if z1 = false then (M.K0, 10) else if M.opOf hx ≠ 0 then M.rop (M.rd M.barred l n b) (M.opOf hx) r else if hx = M.bLet then M.rlet (M.rd M.barred l n) b r
   else if M.barred hx = true then (M.K0, 16) else if (M.bindOf b hx).isSome then (M.K0, 10) else M.rapp (M.rd M.barred l n b) l hx r := by
   rw [← HX0.out, ← hz1]; rfl
  have HX1 := hid hX1
  have hq0 : ((↑(rn + 1) : Int) == 0) = false := by simp; omega
  have C0 := hid c0
  have C1 := hid c1
  have C2 := hid c2
  have C3 := hid c3
  clear hX1 hX hz1 hk HK HX0 htail hslice hor hoh ho hh hv hhm hll hrn c0 c1 c2 c3
  go_enter Tryz.func106, Tryz.ntmps106
  go_upto_region 1 with (fail)
  refine swp_at (fun W => Box W w.heap.size #[.slice A m c, .slice SA sn sc] 104 ∧ Box W (w.heap.size + 1) zero6 33 ∧ Ext w W) ⟨HB0.out, HB1.out, HE.out⟩ ?_
  intro W ⟨hb0, hb1, he⟩
  clear HB0 HB1 HE
  have HB0 := hid hb0
  have HB1 := hid hb1
  have HE := hid he
  have HSZ := hid hb1.lt
  have c0 := HE.out.cell C0.out
  have c1 := HE.out.cell C1.out
  have c2 := HE.out.cell C2.out
  have c3 := HE.out.cell C3.out
  clear hb0 hb1 he
  cases z1
  ·have HX := hid (show X = (M.K0, 10) by rw [HX1.out, if_pos rfl])
   go_wp2_with fail
   refine (HSY.out _ HE.out).mono ?_
   rintro e w1 ⟨rfl, hx⟩
   obtain ⟨⟨r0, r1, r2, r3, r4, r5⟩, ⟨f0, f1, f2, f3, f4, f5⟩, hzr⟩ := boxF6 (HB1.out.up hx)
   have E1 := hid (HE.out.trans hx)
   clear hx c0 c1 c2 c3
   go_wp2_with fail
   refine bodyPost_ret (v := .tuple #[kv 0 false none 0 0 [] 0 none 0 0, .int .i64 10]) (by simp [results, Tryz.results106, go_sem, r0, r1, r2, r3, r4, r5, hzr]) rfl ?_
   rw [HX.out]
   exact ⟨_, rfl, IsTm.zero _, put6_ext E1.out (Nat.le_succ _)⟩
  ·have HX2 := hid (show X = if M.opOf hx ≠ 0 then M.rop (M.rd M.barred l n b) (M.opOf hx) r else if hx = M.bLet then M.rlet (M.rd M.barred l n) b r
    else if M.barred hx = true then (M.K0, 16) else if (M.bindOf b hx).isSome then (M.K0, 10) else M.rapp (M.rd M.barred l n b) l hx r by rw [HX1.out, if_neg (by decide)])
   have HOF := hid (show ∀ w', Ext w w' → Calls Tryz.prog 65 #[str hx] w' fun e w'' => e = .returned (.int .i64 (M.opOf hx : Int)) ∧ Ext w' w'' from fun w' e => operator_n hx (HTB.out.up e).2)
   clear HX1
   go_wp2_with fail
   refine (HSY.out _ HE.out).mono ?_
   rintro e w1 ⟨rfl, hx1⟩
   have E1 := hid (HE.out.trans hx1)
   replace HB0 := hid (HB0.out.up hx1)
   replace HB1 := hid (HB1.out.up hx1)
   clear hx1 c0 c1 c2 c3 HSY
   go_wp2_with fail
   refine wp_region_D [(0, 0), (1, 0), (2, 0), (3, 0), (4, 0), (5, 0), (6, 0), (7, 0), (8, 0)] fun wd hb => ?_
   have Ed := hid (E1.out.trans hb)
   replace HB0 := hid (HB0.out.up hb)
   replace HB1 := hid (HB1.out.up hb)
   have c2 := Ed.out.cell C2.out
   clear hb
   refine WE.p 22 (.slice (some ad) (rn + 1) (kr + 1)) ?_
   simp only [Act.put, pA, pB, pC]
   refine WE.p 23 (.pointer (some ad)) ?_
   simp only [Act.put, pA, pB, pC]
   refine WE.p 24 (.pointer (some ⟨ad.block, ad.off + 1, none⟩)) ?_
   simp only [Act.put, pA, pB, pC]
   refine WE.p 25 (.pointer (some ⟨ad.block, ad.off + 2, none⟩)) ?_
   simp only [Act.put, pA, pB, pC]
   refine WE.q 26 (str hx) rfl (fun w' hk => by have g := hk.cell c2; go_simp) ?_
   simp only [Act.put, pA, pB, pC]
   refine WE.p 27 (.slice (some ad) (rn + 1) (kr + 1)) ?_
   simp only [Act.put, pA, pB, pC]
   refine WE.q 28 (.slice RA rn kr) rfl (fun w' hk => exec_slice1 (.tmp 27) rfl rfl rfl HSL.out) ?_
   simp only [Act.put, pA, pB, pC]
   refine WE.p 6 (str hx) ?_
   simp only [Act.put, pA, pB, pC]
   refine WE.p 7 (.slice RA rn kr) ?_
   refine WE.done ?_
   simp only [Act.put, pA, pB, pC]
   clear c2
   go_wp2_with fail
   refine (HOF.out _ Ed.out).mono ?_
   rintro e w2 ⟨rfl, hx2⟩
   have E2 := hid (Ed.out.trans hx2)
   replace HB0 := hid (HB0.out.up hx2)
   replace HB1 := hid (HB1.out.up hx2)
   clear hx2
   obtain ⟨op, hop⟩ : ∃ op, M.opOf hx = op := ⟨_, rfl⟩
   rw [hop] at HX2 ⊢
   have k0 := HB0.out.k 0
   have k1 := HB0.out.k 1
   by_cases h0 : op = 0
   ·subst h0
    replace HX2 := hid (show X = if hx = M.bLet then M.rlet (M.rd M.barred l n) b r
     else if M.barred hx = true then (M.K0, 16) else if (M.bindOf b hx).isSome then (M.K0, 10) else M.rapp (M.rd M.barred l n b) l hx r from HX2.out)
    by_cases hlet : hx = M.bLet
    ·replace HX2 := hid (show X = M.rlet (M.rd M.barred l n) b r by rw [HX2.out, if_pos hlet])
     obtain ⟨Y, hY⟩ : ∃ Y, M.rlet (M.rd M.barred l n) b r = Y := ⟨_, rfl⟩
     have HX := hid (show X = Y by rw [HX2.out, hY])
     have HC := hid (hY ▸ HLE.out _ r _ E2.out (HRT.out.up E2.out) HOR.out)
     have HSZ2 := hid HB1.out.lt
     obtain rfl : hx = [108, 101, 116] := hlet
     clear HX2 hY HLE HOP HAP HBI
     go_wp2_with fail
     refine HC.out.mono ?_
     rintro e w3 ⟨v3, rfl, hv, hx3⟩
     have HV := hid (fun x0 x1 x2 x3 x4 x5 => give_put (k := w.heap.size + 1) (x0 := x0) (x1 := x1) (x2 := x2) (x3 := x3) (x4 := x4) (x5 := x5) (p := p) (B := w.heap.size) hv HLT.out (Nat.le_succ _) HSZ2.out)
     obtain ⟨N2, nn2, nc2, A2, n2, c2, rfl, -, -, -, -, -, -⟩ := hv.shape
     have E3 := hid (E2.out.trans hx3)
     obtain ⟨⟨r0, r1, r2, r3, r4, r5⟩, ⟨f0, f1, f2, f3, f4, f5⟩, hzr⟩ := boxF6 (HB1.out.up hx3)
     clear hv hx3 k0 k1
     go_wp2_with fail
     refine bodyPost_ret (v := .tuple #[kv Y.1.op Y.1.g N2 nn2 nc2 Y.1.name Y.1.sort A2 n2 c2, .int .i64 Y.2]) (by simp [results, Tryz.results106, go_sem, r0, r1, r2, r3, r4, r5, hzr]) rfl ?_
     rw [HX.out]
     exact ⟨_, rfl, HV.out _ _ _ _ _ _, put6_ext E3.out (Nat.le_succ _)⟩
    ·replace HX2 := hid (show X = if M.barred hx = true then (M.K0, 16) else if (M.bindOf b hx).isSome then (M.K0, 10) else M.rapp (M.rd M.barred l n b) l hx r by rw [HX2.out, if_neg hlet])
     have hn1 : (hx == [108, 101, 116]) = false := by simpa [M.bLet] using hlet
     obtain ⟨q, hq⟩ : ∃ q, M.barred hx = q := ⟨_, rfl⟩
     have HA := hid (fun (w' : World) => hq ▸ alone_t hx w')
     rw [hq] at HX2
     clear hlet HOP HLE hq
     cases q with
     | true =>
     have HX := hid (show X = (M.K0, 16) by rw [HX2.out, if_pos rfl])
     clear HX2 HBI HAP
     go_wp2_with fail
     refine (HA.out _).mono ?_
     rintro e w3 ⟨rfl, hx3⟩
     have E3 := hid (E2.out.trans hx3)
     obtain ⟨⟨r0, r1, r2, r3, r4, r5⟩, ⟨f0, f1, f2, f3, f4, f5⟩, hzr⟩ := boxF6 (HB1.out.up hx3)
     clear k0 k1 hx3
     go_wp2_with fail
     refine bodyPost_ret (v := .tuple #[kv 0 false none 0 0 [] 0 none 0 0, .int .i64 16]) (by simp [results, Tryz.results106, go_sem, r0, r1, r2, r3, r4, r5, hzr]) rfl ?_
     rw [HX.out]
     exact ⟨_, rfl, IsTm.zero _, put6_ext E3.out (Nat.le_succ _)⟩
     | false =>
     replace HX2 := hid (show X = if (M.bindOf b hx).isSome then (M.K0, 10) else M.rapp (M.rd M.barred l n b) l hx r by rw [HX2.out, if_neg (by decide)])
     go_wp2_with fail
     refine (HA.out _).mono ?_
     rintro e w2a ⟨rfl, hx3⟩
     replace E2 := hid (E2.out.trans hx3)
     replace HB0 := hid (HB0.out.up hx3)
     replace HB1 := hid (HB1.out.up hx3)
     clear k0 k1 hx3 HA
     have k0 := HB0.out.k 0
     have k1 := HB0.out.k 1
     have HBI' := hid (HBI.out hx _ E2.out)
     clear HBI
     obtain ⟨bo, hbo⟩ : ∃ bo, M.bindOf b hx = bo := ⟨_, rfl⟩
     rw [hbo] at HBI' HX2
     clear hbo
     go_wp2_with fail
     refine HBI'.out.mono ?_
     rintro e w3 ⟨v3, rfl, hv3, hx3⟩
     obtain ⟨N1, nn1, nc1, A1, n1, c1, rfl, -, -, -, -, -, -⟩ := hv3.shape
     replace HB0 := hid (HB0.out.up hx3)
     replace HB1 := hid (HB1.out.up hx3)
     have E3 := hid (E2.out.trans hx3)
     clear k0 k1 hv3 hx3
     cases bo with
     | some tm =>
      have HX := hid (show X = (M.K0, 10) from HX2.out)
      obtain ⟨⟨r0, r1, r2, r3, r4, r5⟩, ⟨f0, f1, f2, f3, f4, f5⟩, hzr⟩ := boxF6 (HB1.out.alloc (.cells #[.int .i64 tm.op, .bool tm.g, .slice N1 nn1 nc1, str tm.name, .int .i64 tm.sort, .slice A1 n1 c1] 33))
      dsimp only [Option.getD, Option.isSome]
      go_wp2_with fail
      refine bodyPost_ret (v := .tuple #[kv 0 false none 0 0 [] 0 none 0 0, .int .i64 10]) (by simp [results, Tryz.results106, go_sem, r0, r1, r2, r3, r4, r5, hzr]) rfl ?_
      rw [HX.out]
      exact ⟨_, rfl, IsTm.zero _, put6_ext (E3.out.alloc' _) (Nat.le_succ _)⟩
     | none =>
      replace HX2 := hid (show X = M.rapp (M.rd M.barred l n b) l hx r from HX2.out)
      obtain ⟨Y, hY⟩ : ∃ Y, M.rapp (M.rd M.barred l n b) l hx r = Y := ⟨_, rfl⟩
      have HX := hid (show X = Y by rw [HX2.out, hY])
      have HC := hid (fun w' (e : Ext w w') => hY ▸ HAP.out hx w' r _ e (HRT.out.up e) HOR.out HRL.out)
      have k0 := fun o => (Ext.alloc w3 o).cell (HB0.out.k 0)
      have k1 := fun o => (Ext.alloc w3 o).cell (HB0.out.k 1)
      have HB1' := hid (HB1.out.alloc (.cells #[.int .i64 (M.Tm.op M.K0), .bool (M.Tm.g M.K0), .slice N1 nn1 nc1, str (M.Tm.name M.K0), .int .i64 (M.Tm.sort M.K0), .slice A1 n1 c1] 33))
      clear HX2 hY HAP HB1
      have HB1 := HB1'
      clear HB1'
      have E4 := hid (E3.out.alloc' (.cells #[.int .i64 (M.Tm.op M.K0), .bool (M.Tm.g M.K0), .slice N1 nn1 nc1, str (M.Tm.name M.K0), .int .i64 (M.Tm.sort M.K0), .slice A1 n1 c1] 33))
      have HSZ2 := hid HB1.out.lt
      dsimp only [Option.getD, Option.isSome]
      go_wp2_with fail
      refine (HC.out _ E4.out).mono ?_
      rintro e w5 ⟨v5, rfl, hv, hx3⟩
      have HV := hid (fun x0 x1 x2 x3 x4 x5 => give_put (k := w.heap.size + 1) (x0 := x0) (x1 := x1) (x2 := x2) (x3 := x3) (x4 := x4) (x5 := x5) (p := p) (B := w.heap.size) hv HLT.out (Nat.le_succ _) HSZ2.out)
      obtain ⟨N2, nn2, nc2, A2, n2, c2, rfl, -, -, -, -, -, -⟩ := hv.shape
      have E5 := hid (E4.out.trans hx3)
      obtain ⟨⟨r0, r1, r2, r3, r4, r5⟩, ⟨f0, f1, f2, f3, f4, f5⟩, hzr⟩ := boxF6 (HB1.out.up hx3)
      clear hv hx3 k0 k1
      go_wp2_with fail
      refine bodyPost_ret (v := .tuple #[kv Y.1.op Y.1.g N2 nn2 nc2 Y.1.name Y.1.sort A2 n2 c2, .int .i64 Y.2]) (by simp [results, Tryz.results106, go_sem, r0, r1, r2, r3, r4, r5, hzr]) rfl ?_
      rw [HX.out]
      exact ⟨_, rfl, HV.out _ _ _ _ _ _, put6_ext E5.out (Nat.le_succ _)⟩
   ·replace HX2 := hid (show X = M.rop (M.rd M.barred l n b) op r by rw [HX2.out, if_pos h0])
    have hq : ((op : Int) != 0) = true := by simpa using h0
    obtain ⟨Y, hY⟩ : ∃ Y, M.rop (M.rd M.barred l n b) op r = Y := ⟨_, rfl⟩
    have HX := hid (show X = Y by rw [HX2.out, hY])
    have HC := hid (hY ▸ HOP.out op _ r _ E2.out (HRT.out.up E2.out) HOR.out HRL.out)
    have HSZ2 := hid HB1.out.lt
    clear HX2 hY HOP HAP HLE HBI h0
    go_wp2_with fail
    refine HC.out.mono ?_
    rintro e w3 ⟨v3, rfl, hv, hx3⟩
    have HV := hid (fun x0 x1 x2 x3 x4 x5 => give_put (k := w.heap.size + 1) (x0 := x0) (x1 := x1) (x2 := x2) (x3 := x3) (x4 := x4) (x5 := x5) (p := p) (B := w.heap.size) hv HLT.out (Nat.le_succ _) HSZ2.out)
    obtain ⟨N2, nn2, nc2, A2, n2, c2, rfl, -, -, -, -, -, -⟩ := hv.shape
    have E3 := hid (E2.out.trans hx3)
    obtain ⟨⟨r0, r1, r2, r3, r4, r5⟩, ⟨f0, f1, f2, f3, f4, f5⟩, hzr⟩ := boxF6 (HB1.out.up hx3)
    clear hv hx3 k0 k1
    go_wp2_with fail
    refine bodyPost_ret (v := .tuple #[kv Y.1.op Y.1.g N2 nn2 nc2 Y.1.name Y.1.sort A2 n2 c2, .int .i64 Y.2]) (by simp [results, Tryz.results106, go_sem, r0, r1, r2, r3, r4, r5, hzr]) rfl ?_
    rw [HX.out]
    exact ⟨_, rfl, HV.out _ _ _ _ _ _, put6_ext E3.out (Nat.le_succ _)⟩
end Go.Proofs.YtgkofipifjfjhaaGreatDoor.Q

/-
  Contracts of package sort: term; Term.
-/
namespace Go.Proofs.YtgkofipifjfjhaaGreatDoor.Q
set_option linter.unusedSimpArgs false
set_option linter.unusedVariables false
open Go.RowKit

theorem term_boxes (w : World) (x0 x1 y0 y1 y2 y3 : Value) : Box (((w.alloc (.cells #[x0, x1] 104)).alloc (.cells #[y0, y1, y2, y3] 26)).alloc (.cells zero6 33)) w.heap.size #[x0, x1] 104 ∧ Box (((w.alloc (.cells #[x0, x1] 104)).alloc (.cells #[y0, y1, y2, y3] 26)).alloc (.cells zero6 33)) (w.heap.size + 1) #[y0, y1, y2, y3] 26 ∧ Box (((w.alloc (.cells #[x0, x1] 104)).alloc (.cells #[y0, y1, y2, y3] 26)).alloc (.cells zero6 33)) (w.heap.size + 2) zero6 33 ∧ Ext w (((w.alloc (.cells #[x0, x1] 104)).alloc (.cells #[y0, y1, y2, y3] 26)).alloc (.cells zero6 33)) :=
 ⟨((Box.new w _ _).alloc _).alloc _, (Box.at_ (w := w.alloc _) _ _ (by simp)).alloc _, Box.at_ (w := (w.alloc _).alloc _) _ _ (by simp), (alloc_two w _ _).alloc' _⟩
set_option maxHeartbeats 16000000 in
set_option maxRecDepth 100000 in
theorem term_step {l : List M.Sg} {n : Nat} (H : TermAt l n) : TermAt l (n + 1) := by
 intro p _ b t A SA m c sn sc v w hS hg hv htx hh hcn hb
 have hok : okT (n + 1) t := ⟨htx, hh, hcn⟩
 obtain ⟨X, hX⟩ : ∃ X, M.rd M.barred l (n + 1) b t = X := ⟨_, rfl⟩
 rw [hX]
 rw [M.rd] at hX
 have hlen := hok.len
 have hkd := hok.kids
 obtain ⟨tl, ⟨tk, tx⟩, ts⟩ := t
 obtain ⟨B, d, rfl, hk⟩ := hv.parts
 obtain ⟨q, hq⟩ : ∃ q, ts.length = q := ⟨_, rfl⟩
 rw [hq] at hk hv ⊢
 replace hX : (if tl = true then M.rlist M.barred l (M.rd M.barred l n) b ts else if tk = 3 then M.rnum tx else if tk = 4 then M.rsym (M.rd M.barred l n b) l b tx else (M.K0, 10)) = X := hX
 replace hlen : ts.length < 400 := hlen
 replace hkd : okKids n ts := hkd
 have htx' : tx.length ≤ 1000000000000 := by
  rw [M.txtN, Bool.and_eq_true, decide_eq_true_iff] at htx
  have := htx.1
  simp at this
  omega
 have HLT := hid hS.lt
 have HLI := hid (fun (w' : World) (e : Ext w w') => list_t H (hS.up e) hg (hk.up e) hkd (by omega) hb)
 have HSY := hid (fun (w' : World) (e : Ext w w') => symbol_t (s := tx) H (hS.up e) hg (by omega))
 have HNU := hid (fun (w' : World) (e : Ext w w') => number_t (p := p) tx htx' (w := w') fun k hk => Nat.lt_of_lt_of_le (hS.lt k hk) e.size)
 obtain ⟨hb0, hb1, hb2, he⟩ := term_boxes w (.slice A m c) (.slice SA sn sc) (.bool tl) (.int .i64 tk) (str tx) (.slice B q d)
 have HB0 := hid hb0
 have HB1 := hid hb1
 have HB2 := hid hb2
 have HE := hid he
 have HX := hid hX
 clear hb0 hb1 hb2 he hX hS hg hk hkd htx' hb H hlen hq hv htx hh hcn hok
 go_enter Tryz.func61, Tryz.ntmps61
 go_upto_region 1 with (fail)
 refine swp_at (fun W => Box W w.heap.size #[.slice A m c, .slice SA sn sc] 104 ∧ Box W (w.heap.size + 1) #[.bool tl, .int .i64 tk, str tx, .slice B q d] 26 ∧ Box W (w.heap.size + 2) zero6 33 ∧ Ext w W) ⟨HB0.out, HB1.out, HB2.out, HE.out⟩ ?_
 intro W ⟨hb0, hb1, hb2, he⟩
 clear HB0 HB1 HB2 HE
 have HB2 := hid hb2
 have HE := hid he
 have HSZ := hid hb2.lt
 have k0 := hb0.k 0
 have k1 := hb0.k 1
 have t0 := hb1.k 0
 have t1 := hb1.k 1
 have t2 := hb1.k 2
 have t3 := hb1.k 3
 clear hb0 hb1 hb2 he
 cases tl
 ·by_cases h3 : tk = 3
  ·subst h3
   replace HX := hid (show M.rnum tx = X from HX.out)
   obtain ⟨Y, hY⟩ : ∃ Y, M.rnum tx = Y := ⟨_, rfl⟩
   replace HX := hid (show X = Y by rw [← HX.out, hY])
   have HC := hid (hY ▸ HNU.out W HE.out)
   clear hY HNU HLI HSY
   go_wp2_with fail
   refine HC.out.mono ?_
   rintro e w3 ⟨v3, rfl, hv, hx3⟩
   have HV := hid (fun x0 x1 x2 x3 x4 x5 => give_put (k := w.heap.size + 2) (x0 := x0) (x1 := x1) (x2 := x2) (x3 := x3) (x4 := x4) (x5 := x5) (p := p) (B := w.heap.size) hv HLT.out (by omega) HSZ.out)
   obtain ⟨N2, nn2, nc2, A2, n2, c2, rfl, -, -, -, -, -, -⟩ := hv.shape
   have E3 := hid (HE.out.trans hx3)
   obtain ⟨⟨r0, r1, r2, r3, r4, r5⟩, ⟨f0, f1, f2, f3, f4, f5⟩, hzr⟩ := boxF6 (HB2.out.up hx3)
   clear hv hx3 k0 k1 t0 t1 t2 t3
   go_wp2_with fail
   refine bodyPost_ret (v := .tuple #[kv Y.1.op Y.1.g N2 nn2 nc2 Y.1.name Y.1.sort A2 n2 c2, .int .i64 Y.2]) (by simp [results, Tryz.results61, go_sem, r0, r1, r2, r3, r4, r5, hzr]) rfl ?_
   rw [HX.out]
   exact ⟨_, rfl, HV.out _ _ _ _ _ _, put6_ext E3.out (by omega)⟩
  ·have hq3 : (tk == 3) = false := by simpa using h3
   by_cases h4 : tk = 4
   ·subst h4
    replace HX := hid (show M.rsym (M.rd M.barred l n b) l b tx = X from HX.out)
    obtain ⟨Y, hY⟩ : ∃ Y, M.rsym (M.rd M.barred l n b) l b tx = Y := ⟨_, rfl⟩
    replace HX := hid (show X = Y by rw [← HX.out, hY])
    have HC := hid (hY ▸ HSY.out W HE.out)
    clear hY HNU HLI HSY h3 hq3
    go_wp2_with fail
    refine HC.out.mono ?_
    rintro e w3 ⟨v3, rfl, hv, hx3⟩
    have HV := hid (fun x0 x1 x2 x3 x4 x5 => give_put (k := w.heap.size + 2) (x0 := x0) (x1 := x1) (x2 := x2) (x3 := x3) (x4 := x4) (x5 := x5) (p := p) (B := w.heap.size) hv HLT.out (by omega) HSZ.out)
    obtain ⟨N2, nn2, nc2, A2, n2, c2, rfl, -, -, -, -, -, -⟩ := hv.shape
    have E3 := hid (HE.out.trans hx3)
    obtain ⟨⟨r0, r1, r2, r3, r4, r5⟩, ⟨f0, f1, f2, f3, f4, f5⟩, hzr⟩ := boxF6 (HB2.out.up hx3)
    clear hv hx3 k0 k1 t0 t1 t2 t3
    go_wp2_with fail
    refine bodyPost_ret (v := .tuple #[kv Y.1.op Y.1.g N2 nn2 nc2 Y.1.name Y.1.sort A2 n2 c2, .int .i64 Y.2]) (by simp [results, Tryz.results61, go_sem, r0, r1, r2, r3, r4, r5, hzr]) rfl ?_
    rw [HX.out]
    exact ⟨_, rfl, HV.out _ _ _ _ _ _, put6_ext E3.out (by omega)⟩
   ·have hq4 : (tk == 4) = false := by simpa using h4
    have HX := hid (show X = (M.K0, 10) by rw [← HX.out, if_neg (by decide), if_neg h3, if_neg h4])
    obtain ⟨⟨r0, r1, r2, r3, r4, r5⟩, ⟨f0, f1, f2, f3, f4, f5⟩, hzr⟩ := boxF6 HB2.out
    clear h3 h4
    go_wp2_with fail
    refine bodyPost_ret (v := .tuple #[kv 0 false none 0 0 [] 0 none 0 0, .int .i64 10]) (by simp [results, Tryz.results61, go_sem, r0, r1, r2, r3, r4, r5, hzr]) rfl ?_
    rw [HX.out]
    exact ⟨_, rfl, IsTm.zero _, put6_ext HE.out (by omega)⟩
 ·replace HX := hid (show M.rlist M.barred l (M.rd M.barred l n) b ts = X from HX.out)
  obtain ⟨Y, hY⟩ : ∃ Y, M.rlist M.barred l (M.rd M.barred l n) b ts = Y := ⟨_, rfl⟩
  replace HX := hid (show X = Y by rw [← HX.out, hY])
  have HC := hid (hY ▸ HLI.out W HE.out)
  clear hY HNU HLI HSY
  go_wp2_with fail
  refine HC.out.mono ?_
  rintro e w3 ⟨v3, rfl, hv, hx3⟩
  have HV := hid (fun x0 x1 x2 x3 x4 x5 => give_put (k := w.heap.size + 2) (x0 := x0) (x1 := x1) (x2 := x2) (x3 := x3) (x4 := x4) (x5 := x5) (p := p) (B := w.heap.size) hv HLT.out (by omega) HSZ.out)
  obtain ⟨N2, nn2, nc2, A2, n2, c2, rfl, -, -, -, -, -, -⟩ := hv.shape
  have E3 := hid (HE.out.trans hx3)
  obtain ⟨⟨r0, r1, r2, r3, r4, r5⟩, ⟨f0, f1, f2, f3, f4, f5⟩, hzr⟩ := boxF6 (HB2.out.up hx3)
  clear hv hx3 k0 k1 t0 t1 t2 t3
  go_wp2_with fail
  refine bodyPost_ret (v := .tuple #[kv Y.1.op Y.1.g N2 nn2 nc2 Y.1.name Y.1.sort A2 n2 c2, .int .i64 Y.2]) (by simp [results, Tryz.results61, go_sem, r0, r1, r2, r3, r4, r5, hzr]) rfl ?_
  rw [HX.out]
  exact ⟨_, rfl, HV.out _ _ _ _ _ _, put6_ext E3.out (by omega)⟩
theorem term_at (l : List M.Sg) : ∀ n, TermAt l n
 | 0 => by
  intro p _ b t A SA m c sn sc v w hS hg hv htx hh hcn hb
  obtain ⟨tl, tk, ts⟩ := t
  rw [M.hgt] at hh
  omega
 | n + 1 => term_step (term_at l n)
theorem tree_boxes (w : World) (y0 y1 y2 y3 : Value) : Box ((w.alloc (.cells #[y0, y1, y2, y3] 26)).alloc (.cells zero6 33)) w.heap.size #[y0, y1, y2, y3] 26 ∧ Box ((w.alloc (.cells #[y0, y1, y2, y3] 26)).alloc (.cells zero6 33)) (w.heap.size + 1) zero6 33 ∧ Ext w ((w.alloc (.cells #[y0, y1, y2, y3] 26)).alloc (.cells zero6 33)) :=
 ⟨(Box.new w _ _).alloc _, Box.at_ (w := w.alloc _) _ _ (by simp), alloc_two w _ _⟩
set_option maxHeartbeats 8000000 in
theorem Term_t (t : M.T) {l : List M.Sg} {v : Value} {SA : Option Addr} {sn sc : Nat} {w : World} (h : IsT w t v) (htx : M.txtN t = true) (hs : Sgs w l (.slice SA sn sc)) (hnm : ∀ s ∈ l, s.name.length ≤ 1000000000000) (ht : TabS w) : Calls Tryz.prog 17 #[v, .slice SA sn sc] w (GivesTmN w (M.rTerm M.barred l t)) := by
 have hz : ∀ z, M.isU t = z → M.rTerm M.barred l t = if z = true then M.rd M.barred l 61 [] t else (M.K0, 10) := fun z e => by rw [← e]; rfl
 have hrd := fun (hu : M.isU t = true) (w' : World) (e : Ext w w') => term_at l 61 (fun _ => False) (w := w') (b := []) (A := none) (m := 0) (c := 0) (SA := SA) (sn := sn) (sc := sc) ⟨Bds.nil _, rfl, by omega, hs.up e, hnm, fun k hk => hk.elim, ht.up e⟩ M.goodB_nil (h.up e) htx (M.hgt_isU hu) (M.isU_parts hu).1 (by simp)
 have his := fun (w' : World) (e : Ext w w') => isU_t t (h.up e) htx
 obtain ⟨tl, ⟨tk, tx⟩, ts⟩ := t
 obtain ⟨B, d, rfl, hk⟩ := h.parts
 obtain ⟨q, hq⟩ : ∃ q, ts.length = q := ⟨_, rfl⟩
 obtain ⟨X, hX⟩ : ∃ X, M.rTerm M.barred l (.mk tl (tk, tx) ts) = X := ⟨_, rfl⟩
 obtain ⟨z, hz1⟩ : ∃ z, M.isU (.mk tl (tk, tx) ts) = z := ⟨_, rfl⟩
 replace hz := hz z hz1
 rw [hq] at hrd his ⊢
 rw [hX] at hz ⊢
 rw [hz1] at his hrd
 have HIS := hid his
 have HRD := hid hrd
 have HZ := hid hz
 obtain ⟨hb0, hb1, he⟩ := tree_boxes w (.bool tl) (.int .i64 tk) (str tx) (.slice B q d)
 have HB0 := hid hb0
 have HB1 := hid hb1
 have HE := hid he
 clear h htx hs hnm ht hk hq hX hz1 hb0 hb1 he hz his hrd
 go_enter Tryz.func17, Tryz.ntmps17
 go_upto_region 1 with (fail)
 refine swp_at (fun W => Box W w.heap.size #[.bool tl, .int .i64 tk, str tx, .slice B q d] 26 ∧ Box W (w.heap.size + 1) zero6 33 ∧ Ext w W) ⟨HB0.out, HB1.out, HE.out⟩ ?_
 intro W ⟨hb0, hb1, he⟩
 clear HB0 HB1 HE
 have HB0 := hid hb0
 have HB1 := hid hb1
 have HE := hid he
 have HSZ := hid hb1.lt
 have t0 := hb0.k 0
 have t1 := hb0.k 1
 have t2 := hb0.k 2
 have t3 := hb0.k 3
 clear hb0 hb1 he
 cases z
 ·have HX := hid (show X = (M.K0, 10) from HZ.out)
  go_wp2_with fail
  refine (HIS.out _ HE.out).mono ?_
  rintro e w1 ⟨rfl, hx⟩
  obtain ⟨⟨r0, r1, r2, r3, r4, r5⟩, ⟨f0, f1, f2, f3, f4, f5⟩, hzr⟩ := boxF6 (HB1.out.up hx)
  have E1 := hid (HE.out.trans hx)
  clear hx t0 t1 t2 t3
  go_wp2_with fail
  refine bodyPost_ret (v := .tuple #[kv 0 false none 0 0 [] 0 none 0 0, .int .i64 10]) (by simp [results, Tryz.results17, go_sem, r0, r1, r2, r3, r4, r5, hzr]) rfl ?_
  rw [HX.out]
  exact ⟨_, rfl, IsTm.zero _, put6_ext E1.out (Nat.le_succ _)⟩
 ·have HX := hid (show X = M.rd M.barred l 61 [] (.mk tl (tk, tx) ts) from HZ.out)
  obtain ⟨Y, hY⟩ : ∃ Y, M.rd M.barred l 61 [] (.mk tl (tk, tx) ts) = Y := ⟨_, rfl⟩
  have HC := hid (fun w' (e : Ext w w') => hY ▸ HRD.out rfl w' e)
  replace HX := hid (show X = Y by rw [HX.out, hY])
  clear hY HRD HZ
  go_wp2_with fail
  refine (HIS.out _ HE.out).mono ?_
  rintro e w1 ⟨rfl, hx⟩
  have E1 := hid (HE.out.trans hx)
  have g0 := hx.cell t0
  have g1 := hx.cell t1
  have g2 := hx.cell t2
  have g3 := hx.cell t3
  replace HB1 := hid (HB1.out.up hx)
  have HSZ1 := hid HB1.out.lt
  clear hx t0 t1 t2 t3
  go_wp2_with fail
  refine (HC.out _ E1.out).mono ?_
  rintro e w3 ⟨v3, rfl, hv, hx3⟩
  have hv' := hv.sub (gp_mono (q := fun b => w1.heap.size ≤ b) (Nat.le_refl _) fun k _ h => ⟨h.elim False.elim id, rfl⟩)
  have HV := hid (fun x0 x1 x2 x3 x4 x5 => new_putG (k := w.heap.size + 1) (B := w.heap.size) (x0 := x0) (x1 := x1) (x2 := x2) (x3 := x3) (x4 := x4) (x5 := x5) hv' HSZ1.out E1.out.size)
  obtain ⟨N2, nn2, nc2, A2, n2, c2, rfl, -, -, -, -, -, -⟩ := hv.shape
  have E3 := hid (E1.out.trans hx3)
  obtain ⟨⟨r0, r1, r2, r3, r4, r5⟩, ⟨f0, f1, f2, f3, f4, f5⟩, hzr⟩ := boxF6 (HB1.out.up hx3)
  clear hv hv' hx3 g0 g1 g2 g3
  go_wp2_with fail
  refine bodyPost_ret (v := .tuple #[kv Y.1.op Y.1.g N2 nn2 nc2 Y.1.name Y.1.sort A2 n2 c2, .int .i64 Y.2]) (by simp [results, Tryz.results17, go_sem, r0, r1, r2, r3, r4, r5, hzr]) rfl ?_
  rw [HX.out]
  exact ⟨_, rfl, HV.out _ _ _ _ _ _, put6_ext E3.out (Nat.le_succ _)⟩
end Go.Proofs.YtgkofipifjfjhaaGreatDoor.Q

