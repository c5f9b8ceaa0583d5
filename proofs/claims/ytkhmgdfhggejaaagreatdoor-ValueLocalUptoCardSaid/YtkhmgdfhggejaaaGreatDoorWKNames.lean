/-
  Layer 10, the reference: a term's names.
-/
import Derived.Test.YtkhmgdfhggejaaaGreatDoorWJKD
namespace Go.Proofs.YtkhmgdfhggejaaaGreatDoor.Q
set_option linter.unusedSimpArgs false
set_option linter.unusedVariables false
open Go.RowKit

theorem Ext.trans_below {a b c : World} (h : Ext a b) (k : Below a.heap.size b c) : Ext a c := Below.trans (B := a.heap.size) h k
/-- What the search keeps. -/
def RoundP (w1 : World) (nm : List UInt8) (B : Option Addr) (m bd : Nat) (so : Int) (l : List M.Sg) (k : Nat) (wr : World) : Prop :=
 M.kPre nm l k ∧ Box wr w1.heap.size #[str nm, .slice B m bd, .int .i64 so] 52 ∧ Ext w1 wr
set_option maxHeartbeats 16000000 in
set_option maxRecDepth 100000 in
theorem sigs_n (t : M.Tm) : ∀ {l : List M.Sg} {ok : Bool} {v vl : Value} {w : World}, IsTm w t v → Sgs w l vl → l.length + M.kcnt t ≤ 1000000 → Calls Tryz.prog 48 #[v, vl, .bool ok] w (GivesSgs w (M.ksigs t (l, ok))) := by
 refine M.Tm.indA (P := fun t => ∀ {l : List M.Sg} {ok : Bool} {v vl : Value} {w : World}, IsTm w t v → Sgs w l vl → l.length + M.kcnt t ≤ 1000000 → Calls Tryz.prog 48 #[v, vl, .bool ok] w (GivesSgs w (M.ksigs t (l, ok)))) (fun op g ls nm so ks ih l ok v vl w h hS hlen => ?_) t
 obtain ⟨LA, lc, rfl⟩ := hS.shape
 obtain ⟨hs1, hs2, hs3⟩ := hS.le
 rw [M.kcnt] at hlen
 have hks := M.kcnts_len ks
 have HG := @hid (∀ w', Ext w w' → Calls Tryz.prog 73 #[v] w' (GivesSg w' (M.sigOf (.mk op g ls nm so ks)))) (fun w' e => kSigOf_n (h.up e) (by show ks.length ≤ 1000000; omega))
 obtain ⟨N, nn, nc, A, c, rfl, hn, hk⟩ := h
 replace hk : Tms w ks (.slice A ks.length c) := hk
 replace HG : Hid (∀ w', Ext w w' → Calls Tryz.prog 73 #[kv op g N nn nc nm so A ks.length c] w' (fun e w2 => ∃ B d, e = .returned (sgv nm B (ks.map M.Tm.sort).length d so) ∧ Ints w2 (ks.map M.Tm.sort) (.slice B (ks.map M.Tm.sort).length d) ∧ Ext w' w2)) := hid HG.out
 show Calls Tryz.prog 48 #[kv op g N nn nc nm so A ks.length c, .slice LA l.length lc, .bool ok] w _
 obtain ⟨hl1, hl2, hl3⟩ := hk.le
 obtain ⟨nk, hnk⟩ : ∃ n, ks.length = n := ⟨_, rfl⟩
 obtain ⟨n, hn'⟩ : ∃ n, l.length = n := ⟨_, rfl⟩
 obtain ⟨ag, hag⟩ : ∃ a, ks.map M.Tm.sort = a := ⟨_, rfl⟩
 obtain ⟨m, hm⟩ : ∃ n, ag.length = n := ⟨_, rfl⟩
 obtain ⟨res, hres⟩ : ∃ r, M.ksigs (.mk op g ls nm so ks) (l, ok) = r := ⟨_, rfl⟩
 obtain ⟨P0, hP0⟩ : ∃ p, (if op = 4 then M.kadd ⟨nm, ag, so⟩ (l, ok) else (l, ok)) = p := ⟨_, rfl⟩
 have HR := hid (show res = M.ksigss ks P0 by rw [← hres, M.ksigs_mk, hag, hP0])
 have HL0 := hid (show P0.1.length + M.kcnts ks ≤ 1000000 by
  rw [← hP0]
  split
  ·have := M.kadd_len ⟨nm, ag, so⟩ (l, ok)
   have h2 : (l, ok).1.length = l.length := rfl
   omega
  ·show l.length + _ ≤ _
   omega)
 have HK5 := hid (show n ≤ 1000000 by omega)
 rw [hres]
 rw [hag, hm] at HG
 rw [hnk] at hk hl2 HG
 rw [hn'] at hS hs2
 rw [hnk, hn']
 have HK := hid hk
 have IH := @hid (∀ (k : Nat) (u : M.Tm), ks[k]? = some u → ∀ {l : List M.Sg} {ok : Bool} {v vl : Value} {w : World}, IsTm w u v → Sgs w l vl → l.length + M.kcnt u ≤ 1000000 → Calls Tryz.prog 48 #[v, vl, .bool ok] w (GivesSgs w (M.ksigs u (l, ok)))) @ih
 have HNK := hid hnk
 have HN := hid hn'
 have HM := hid hm
 have HS := hid hS
 have hs4 : n ≤ lc := hs2
 clear hk ih hnk hn' hm hag hres hlen hks hl1 hs1 hn hS
 by_cases hop : op = 4
 case neg =>
  have hq : (op == 4) = false := by simpa using hop
  rw [if_neg hop] at hP0
  have HSt := hid (show Sgs (kboxed w op g N nn nc nm so A nk c) P0.1 (.slice LA n lc) by rw [← hP0]; exact HS.out.up (Ext.alloc w _))
  have HP2 := hid (show P0.2 = ok by rw [← hP0])
  have E := hid (Ext.refl (kboxed w op g N nn nc nm so A nk c))
  clear hP0 HG
  go_enter Tryz.func48, Tryz.ntmps48
  go_wp2_with fail
  go_loopw [8, 9, 12] (fun x y i wr => ∃ (k : Nat) (b : Bool), y = .bool b ∧ i = .int .i64 (k : Int) ∧ k ≤ nk ∧ Hid (Sgs wr (M.ksigss (ks.take k) P0).1 x ∧ (M.ksigss (ks.take k) P0).2 = b ∧ Ext (kboxed w op g N nn nc nm so A nk c) wr)) (fun _ _ i _ => nk - (intOf i).toNat)
  case atStart => exact ⟨0, ok, rfl, rfl, Nat.zero_le _, by rw [List.take_zero, M.ksigss]; exact HSt.out, by rw [List.take_zero, M.ksigss]; exact HP2.out, E.out⟩
  case round =>
   obtain ⟨k, b, rfl, rfl, hk, hR⟩ := hrel
   obtain ⟨PK, hPK⟩ : ∃ p, M.ksigss (ks.take k) P0 = p := ⟨_, rfl⟩
   rw [hPK] at hR
   have E9 := hid hR.out.2.2
   have HS9 := hid hR.out.1
   obtain rfl := hR.out.2.1
   have HPK := hid hPK
   obtain ⟨⟨b0, b1, b2, b3, b4, b5⟩, hz⟩ := box6 E9.out
   clear hR hPK
   rcases Nat.lt_or_ge k nk with hlt | hge
   ·have hlt' : (k : Int) < (nk : Int) := by omega
    obtain ⟨ad9, u, N', nn', nc', B9, d9, rfl, hu, ⟨c0, c1, c2, c3, c4, c5⟩, hv⟩ := (HK.out.up ((Ext.alloc w _).trans E9.out)).get hlt
    have HU := hid hu
    have hln : PK.1.length + M.kcnt u ≤ 1000000 := by
     have h1 := M.ksigss_len (ks.take k) P0
     rw [HPK.out] at h1
     have h2 := M.kcnts_take hu
     have h3 := M.kcnts_take_le ks (k + 1)
     have h4 := HL0.out
     omega
    obtain ⟨PN, hPN⟩ : ∃ p, M.ksigs u PK = p := ⟨_, rfl⟩
    have HC := hid (show Calls Tryz.prog 48 #[kv u.op u.g N' nn' nc' u.name u.sort B9 u.kids.length d9, u8, .bool PK.2] wr (fun e w' => ∃ v, e = .returned (.tuple #[v, .bool PN.2]) ∧ Sgs w' PN.1 v ∧ Ext wr w') by
     have hcall := IH.out k u hu (l := PK.1) (ok := PK.2) hv HS9.out hln
     rw [show M.ksigs u (PK.1, PK.2) = PN from hPN] at hcall
     exact hcall)
    have HPN := hid (show M.ksigss (ks.take (k + 1)) P0 = PN by rw [M.ksigss_take hu, HPK.out, hPN])
    clear hu hv hln hPN
    go_wp2_with (go_at_call 48; refine HC.out.mono ?_; rintro e w' ⟨v9, rfl, hS9, hb⟩; replace HS9 := hid hS9; replace E9 := hid (E9.out.trans hb); clear hb hS9)
    go_roundw
    case rel => exact ⟨k + 1, PN.2, rfl, by simp, by omega, by rw [HPN.out]; exact HS9.out, by rw [HPN.out], E9.out⟩
    case measure => simp [intOf]; omega
   ·obtain rfl : k = nk := by omega
    go_wp2_with fail
    refine bodyPost_ret (v := .tuple #[u8, .bool PK.2]) (by simp [results, Tryz.results48, go_sem]) rfl ?_
    obtain rfl : res = PK := by rw [HR.out, ← HPK.out, ← HNK.out, List.take_length]
    exact ⟨_, rfl, HS9.out, (Ext.alloc w _).trans E9.out⟩
 case pos =>
 subst hop
 rw [if_pos rfl] at hP0
 have HP0 := hid hP0
 have HG' := hid (HG.out _ (Ext.alloc w (.cells #[.int .i64 4, .bool g, .slice N nn nc, str nm, .int .i64 so, .slice A nk c] 27)))
 clear hP0 HG
 go_enter Tryz.func48, Tryz.ntmps48
 go_wp2_with fail
 refine HG'.out.mono ?_
 rintro e w1 ⟨B, bd, rfl, hi1, hb⟩
 have E1 := hid (show Ext (kboxed w 4 g N nn nc nm so A nk c) w1 from hb)
 have HIG := hid hi1
 obtain ⟨hb1, hb2, hb3⟩ := hi1.le
 clear hb hi1 HG' hb1
 go_wp2_with fail
 go_loopw [11] (fun i wr => ∃ (k : Nat), i = .int .i64 (k : Int) ∧ k ≤ n ∧ Hid (RoundP w1 nm B m bd so l k wr)) (fun i _ => n - (intOf i).toNat)
 case atStart =>
  refine ⟨0, rfl, Nat.zero_le _, ⟨fun j x hj => absurd hj (Nat.not_lt_zero _), ?_, ?_⟩⟩
  ·exact Box.new w1 _ _
  ·exact Ext.alloc w1 _
 case round =>
  obtain ⟨k, rfl, hk, hR⟩ := hrel
  obtain ⟨hP, hB, hE⟩ := hR.out
  have HP := hid hP
  have HB := hid hB
  have EL := hid hE
  have E := hid (E1.out.trans hE)
  have Ew := hid ((Ext.alloc w _).trans (E1.out.trans hE))
  clear hR hP hB hE
  obtain ⟨A1, hA1⟩ : ∃ a, (if lc = 0 then LA else LA.map (·.add (0 * 3))) = a := ⟨_, rfl⟩
  obtain ⟨A2, n2, ca2, hA2⟩ : ∃ A' n' c', Value.slice (if lc = k then LA else LA.map (·.add (k * 3))) (n - k) (lc - k) = .slice A' n' c' := ⟨_, _, _, rfl⟩
  have HSA := hid (show ∀ w, (Instr.slice 47 (.slice LA n lc) none (some (.int .i64 (k : Int))) none).run Tryz.prog w = .ok (.slice A1 k lc) w from fun w => hA1 ▸ slice_toS (k := k) (by omega) w)
  have HSB := hid (show ∀ w, (Instr.slice 47 (.slice LA n lc) (some (.int .i64 (k : Int))) none none).run Tryz.prog w = .ok (.slice A2 n2 ca2) w from fun w => hA2 ▸ slice_fromS (k := k) hk w)
  have T1 := hid (show Sgs (kboxed w 4 g N nn nc nm so A nk c) (l.take k) (.slice A1 k lc) from hA1 ▸ (HS.out.up (Ext.alloc w _)).to_ hk)
  have T2 := hid (show Sgs (kboxed w 4 g N nn nc nm so A nk c) (l.drop k) (.slice A2 n2 ca2) from hA2 ▸ (HS.out.up (Ext.alloc w _)).from_ hk)
  clear hA1 hA2
  rcases Nat.lt_or_ge k n with hlt | hge
  ·have hlt' : (k : Int) < (n : Int) := by omega
   obtain ⟨ad, x, C, cc, rfl, hx, ⟨c0, c1, c2⟩, hv⟩ := (HS.out.up Ew.out).get hlt
   have HXK := hid hx
   obtain ⟨QL, hQL⟩ : ∃ b, Go.Op.bytesLess x.name nm = b := ⟨_, rfl⟩
   have HL := hid hQL
   have HV := hid hv
   clear hx hQL hv Ew
   go_wp2_with fail
   cases QL
   ·obtain ⟨QE, hQE⟩ : ∃ b, decide (x.name = nm) = b := ⟨_, rfl⟩
    refine wp_region_D [(0, 0), (1, 0), (2, 0), (3, 0), (4, 0), (5, 0), (6, 0), (7, 0), (8, 0), (9, 0), (10, 0), (11, 0), (12, 0), (13, 0)] fun wd hb => ?_
    have Ed := hid hb
    replace c0 := hb.cell c0
    replace c1 := hb.cell c1
    replace c2 := hb.cell c2
    have g0 := (HB.out.up hb).k 0 (v := str nm)
    clear hb
    refine WE.p 20 (.int .i64 (k : Int)) ?_
    simp only [Act.put, pA, pB, pC]
    refine WE.p 21 (.slice (some ad) n lc) ?_
    simp only [Act.put, pA, pB, pC]
    refine WE.p 22 (.int .i64 (n : Int)) ?_
    simp only [Act.put, pA, pB, pC]
    refine WE.p 23 (.bool true) ?_
    simp only [Act.put, pA, pB, pC]
    refine WE.p 24 (.bool true) ?_
    simp only [Act.put, pA, pB, pC]
    refine WE.p 25 (.slice (some ad) n lc) ?_
    simp only [Act.put, pA, pB, pC]
    refine WE.p 26 (.int .i64 (k : Int)) ?_
    simp only [Act.put, pA, pB, pC]
    refine WE.p 27 (.pointer (some (ad.add (k * 3)))) ?_
    simp only [Act.put, pA, pB, pC]
    refine WE.p 28 (.pointer (some (ad.add (k * 3)))) ?_
    simp only [Act.put, pA, pB, pC]
    refine WE.q 29 (str x.name) rfl (fun w' hk => by have x0 := hk.cell c0; go_simp) ?_
    simp only [Act.put, pA, pB, pC]
    refine WE.p 30 (.pointer (some ⟨w1.heap.size, 0, none⟩)) ?_
    simp only [Act.put, pA, pB, pC]
    refine WE.q 31 (str nm) rfl (fun w' hk => by have x0 := hk.cell g0; go_simp) ?_
    simp only [Act.put, pA, pB, pC]
    refine WE.q 32 (.bool false) rfl (fun w' hk => by have hf := HL.out; go_simp) ?_
    simp only [Act.put, pA, pB, pC]
    refine WE.p 33 (.bool false) ?_
    simp only [Act.put, pA, pB, pC]
    refine WE.done ?_
    clear g0
    replace HB := hid (HB.out.up Ed.out)
    replace E := hid (E.out.trans Ed.out)
    replace EL := hid (EL.out.trans Ed.out)
    replace HV := hid (HV.out.up Ed.out)
    clear Ed
    go_wp2_with fail
    cases QE
    ·have hne : x.name ≠ nm := of_decide_eq_false hQE
     have HE := hid hne
     have HX := hid (show P0 = (l.take k ++ [⟨nm, ag, so⟩] ++ l.drop k, ok) by rw [← HP0.out]; exact M.kadd_new HP.out HXK.out HL.out hne)
     clear hQE hne
     refine wp_region_D [(0, 0), (1, 0), (2, 0), (3, 0), (4, 0), (5, 0), (6, 0), (7, 0), (8, 0), (9, 0), (10, 0), (11, 0), (12, 0), (13, 0)] fun wd hb => ?_
     have Ed := hid hb
     replace c0 := hb.cell c0
     replace c1 := hb.cell c1
     replace c2 := hb.cell c2
     have g0 := (HB.out.up hb).k 0 (v := str nm)
     clear hb
     refine WE.p 36 (.int .i64 (k : Int)) ?_
     simp only [Act.put, pA, pB, pC]
     refine WE.p 37 (.slice (some ad) n lc) ?_
     simp only [Act.put, pA, pB, pC]
     refine WE.p 38 (.int .i64 (n : Int)) ?_
     simp only [Act.put, pA, pB, pC]
     refine WE.p 39 (.bool true) ?_
     simp only [Act.put, pA, pB, pC]
     refine WE.p 40 (.bool true) ?_
     simp only [Act.put, pA, pB, pC]
     refine WE.p 41 (.slice (some ad) n lc) ?_
     simp only [Act.put, pA, pB, pC]
     refine WE.p 42 (.int .i64 (k : Int)) ?_
     simp only [Act.put, pA, pB, pC]
     refine WE.p 43 (.pointer (some (ad.add (k * 3)))) ?_
     simp only [Act.put, pA, pB, pC]
     refine WE.p 44 (.pointer (some (ad.add (k * 3)))) ?_
     simp only [Act.put, pA, pB, pC]
     refine WE.q 45 (str x.name) rfl (fun w' hk => by have x0 := hk.cell c0; go_simp) ?_
     simp only [Act.put, pA, pB, pC]
     refine WE.p 46 (.pointer (some ⟨w1.heap.size, 0, none⟩)) ?_
     simp only [Act.put, pA, pB, pC]
     refine WE.q 47 (str nm) rfl (fun w' hk => by have x0 := hk.cell g0; go_simp) ?_
     simp only [Act.put, pA, pB, pC]
     refine WE.q 48 (.bool false) rfl (fun w' hk => by have hf := HE.out; go_simp) ?_
     simp only [Act.put, pA, pB, pC]
     refine WE.p 49 (.bool false) ?_
     simp only [Act.put, pA, pB, pC]
     refine WE.done ?_
     clear g0
     replace HB := hid (HB.out.up Ed.out)
     replace E := hid (E.out.trans Ed.out)
     replace EL := hid (EL.out.trans Ed.out)
     replace HV := hid (HV.out.up Ed.out)
     clear Ed
     go_wp2_with fail
     refine wp_region_F [] [(0, 1), (1, 1), (2, 1), (4, 0), (7, 1), (8, 1), (9, 1)] 3 5 [(6, 3), (10, 3), (11, 2)] fun wd hb => ?_
     have Ed := hid hb
     obtain ⟨g0, g1, g2⟩ := box3b (HB.out.up hb)
     clear hb
     replace E := hid (E.out.trans Ed.out)
     replace EL := hid (EL.out.trans Ed.out)
     have HIW := hid (HIG.out.up EL.out)
     have T1w := hid (T1.out.up E.out)
     have T2w := hid (T2.out.up E.out)
     refine WF.y 59 (.slice (some ad) n lc) ?_
     simp only [Act.put, pA, pB, pC]
     refine WF.y 60 (.int .i64 (k : Int)) ?_
     simp only [Act.put, pA, pB, pC]
     refine WF.y 61 (.slice A1 k lc) ?_ (hy := fun w' => by have hf := HSA.out; go_simp)
     simp only [Act.put, pA, pB, pC]
     refine WF.q 63 (sgv nm B m bd so) rfl (fun w' hk => by have x0 := hk.ext.cell g0; have x1 := hk.ext.cell g1; have x2 := hk.ext.cell g2; go_simp) ?_
     simp only [Act.put, pA, pB, pC]
     refine WF.y 66 (.slice (some ad) n lc) ?_
     simp only [Act.put, pA, pB, pC]
     refine WF.y 67 (.int .i64 (k : Int)) ?_
     simp only [Act.put, pA, pB, pC]
     refine WF.y 68 (.slice A2 n2 ca2) ?_ (hy := fun w' => by have hf := HSB.out; go_simp)
     simp only [Act.put, pA, pB, pC]
     clear g0 g1 g2
     refine WF.fork (n := 62) (m := 64) (R := fun v u w' => OwnS wd w' v (l.take k) ∧ ∃ g, u = .slice (some ⟨g, 0, none⟩) 1 1 ∧ Box w' g #[str nm, .slice B m bd, .int .i64 so] 52 ∧ Ext wd w') rfl rfl rfl rfl (by decide) ?h1a ?h2a ?hra
     case h1a =>
      obtain ⟨v3, w3, hrun, hO, hB3, hK3⟩ := appS_run (W := wd) (w := wd) (OwnS.nil wd wd) (T1w.out.src fun a u h => h) (by have := HN.out; have := HK5.out; simp [List.length_take]; omega) (Nat.le_refl _) 47
      refine ⟨_, _, kexec_app (.const (.slice none 0 0)) (.tmp 61) rfl rfl rfl hrun, hK3, .slice (some ⟨w3.heap.size, 0, none⟩) 1 1, w3.alloc (.cells #[str nm, .slice B m bd, .int .i64 so] 52), by simp only [Act.put, pA, pB, pC]; go_simp, (Ext.alloc _ _).kept _, (show OwnS wd w3 v3 (l.take k) from hO).up (Ext.alloc _ _), _, rfl, Box.new _ _ _, (show Ext wd w3 from hB3).trans (Ext.alloc _ _)⟩
     case h2a =>
      obtain ⟨v3, w3, hrun, hO, hB3, hK3⟩ := appS_run (W := wd) (w := wd.alloc (.cells #[str nm, .slice B m bd, .int .i64 so] 52)) (OwnS.nil wd _) (T1w.out.src fun a u h => (Ext.alloc wd _).cell h) (by have := HN.out; have := HK5.out; simp [List.length_take]; omega) (Ext.alloc wd _).size 47
      have hK4 : Ext (wd.alloc (.cells #[str nm, .slice B m bd, .int .i64 so] 52)) w3 := Kept.ext hK3
      refine ⟨.slice (some ⟨wd.heap.size, 0, none⟩) 1 1, wd.alloc (.cells #[str nm, .slice B m bd, .int .i64 so] 52), by go_simp, (Ext.alloc _ _).kept _, v3, w3, kexec_app (.const (.slice none 0 0)) (.tmp 61) rfl rfl (by simp only [Act.put, pA, pB, pC]; rfl) hrun, hK3, hO, _, rfl, (Box.new wd #[str nm, .slice B m bd, .int .i64 so] 52).up hK4, (Ext.alloc wd _).trans hK4⟩
     rintro v3 u3 w3 ⟨hO3, gb, rfl, hBg, hE3⟩
     simp only [Act.put, pA, pB, pC]
     obtain ⟨v6, w6, hrun6, hO6, hB6, -⟩ := appS_run hO3 (sgSrc_one (s := ⟨nm, ag, so⟩) hBg HIW.out) (by have := HN.out; have := HK5.out; simp [List.length_take]; omega) hE3.size 47
     have hE6 : Ext wd w6 := hE3.trans_below hB6
     refine WK.late 65 rfl (kexec_app (.tmp 62) (.tmp 64) rfl rfl rfl hrun6) ?_
     simp only [Act.put, pA, pB, pC]
     obtain ⟨v8, w8, hrun8, hO8, hB8, -⟩ := appS_run hO6 (T2w.out.src fun a u h => hE6.cell h) (by have := HN.out; have := HK5.out; simp [List.length_take, List.length_drop]; omega) hE6.size 47
     have hE8 : Ext wd w8 := hE6.trans_below hB8
     refine WK.late 69 rfl (kexec_app (.tmp 65) (.tmp 68) rfl rfl rfl hrun8) ?_
     simp only [Act.put, pA, pB, pC]
     have HSt := hid (show Sgs w8 P0.1 v8 by rw [HX.out]; exact hO8.sgs hE8)
     have HP2 := hid (show P0.2 = ok by rw [HX.out])
     replace E := hid (E.out.trans hE8)
     clear hrun6 hO6 hB6 hE6 hrun8 hO8 hB8 hE8 hO3 hBg hE3
     refine WK.y 8 v8 ?_
     simp only [Act.put, pA, pB, pC]
     refine WK.done ?_
     go_wp2_with fail
     go_loopw [8, 9, 12] (fun x y i wr => ∃ (k : Nat) (b : Bool), y = .bool b ∧ i = .int .i64 (k : Int) ∧ k ≤ nk ∧ Hid (Sgs wr (M.ksigss (ks.take k) P0).1 x ∧ (M.ksigss (ks.take k) P0).2 = b ∧ Ext (kboxed w 4 g N nn nc nm so A nk c) wr)) (fun _ _ i _ => nk - (intOf i).toNat)
     case atStart => exact ⟨0, ok, rfl, rfl, Nat.zero_le _, by rw [List.take_zero, M.ksigss]; exact HSt.out, by rw [List.take_zero, M.ksigss]; exact HP2.out, E.out⟩
     case round =>
      obtain ⟨k, b, rfl, rfl, hk, hR⟩ := hrel
      obtain ⟨PK, hPK⟩ : ∃ p, M.ksigss (ks.take k) P0 = p := ⟨_, rfl⟩
      rw [hPK] at hR
      have E9 := hid hR.out.2.2
      have HS9 := hid hR.out.1
      obtain rfl := hR.out.2.1
      have HPK := hid hPK
      obtain ⟨⟨b0, b1, b2, b3, b4, b5⟩, hz⟩ := box6 E9.out
      clear hR hPK
      rcases Nat.lt_or_ge k nk with hlt | hge
      ·have hlt' : (k : Int) < (nk : Int) := by omega
       obtain ⟨ad9, u, N', nn', nc', B9, d9, rfl, hu, ⟨c0, c1, c2, c3, c4, c5⟩, hv⟩ := (HK.out.up ((Ext.alloc w _).trans E9.out)).get hlt
       have HU := hid hu
       have hln : PK.1.length + M.kcnt u ≤ 1000000 := by
        have h1 := M.ksigss_len (ks.take k) P0
        rw [HPK.out] at h1
        have h2 := M.kcnts_take hu
        have h3 := M.kcnts_take_le ks (k + 1)
        have h4 := HL0.out
        omega
       obtain ⟨PN, hPN⟩ : ∃ p, M.ksigs u PK = p := ⟨_, rfl⟩
       have HC := hid (show Calls Tryz.prog 48 #[kv u.op u.g N' nn' nc' u.name u.sort B9 u.kids.length d9, u8, .bool PK.2] wr (fun e w' => ∃ v, e = .returned (.tuple #[v, .bool PN.2]) ∧ Sgs w' PN.1 v ∧ Ext wr w') by
        have hcall := IH.out k u hu (l := PK.1) (ok := PK.2) hv HS9.out hln
        rw [show M.ksigs u (PK.1, PK.2) = PN from hPN] at hcall
        exact hcall)
       have HPN := hid (show M.ksigss (ks.take (k + 1)) P0 = PN by rw [M.ksigss_take hu, HPK.out, hPN])
       clear hu hv hln hPN
       go_wp2_with (go_at_call 48; refine HC.out.mono ?_; rintro e w' ⟨v9, rfl, hS9, hb⟩; replace HS9 := hid hS9; replace E9 := hid (E9.out.trans hb); clear hb hS9)
       go_roundw
       case rel => exact ⟨k + 1, PN.2, rfl, by simp, by omega, by rw [HPN.out]; exact HS9.out, by rw [HPN.out], E9.out⟩
       case measure => simp [intOf]; omega
      ·obtain rfl : k = nk := by omega
       go_wp2_with fail
       refine bodyPost_ret (v := .tuple #[u8, .bool PK.2]) (by simp [results, Tryz.results48, go_sem]) rfl ?_
       obtain rfl : res = PK := by rw [HR.out, ← HPK.out, ← HNK.out, List.take_length]
       exact ⟨_, rfl, HS9.out, (Ext.alloc w _).trans E9.out⟩
    ·have heq : x.name = nm := of_decide_eq_true hQE
     have HE := hid heq
     have HX := hid (show P0 = (l, ok && M.ksameS x ⟨nm, ag, so⟩) by rw [← HP0.out]; exact M.kadd_found HP.out HXK.out HL.out heq)
     clear hQE heq
     obtain ⟨QS, hQS⟩ : ∃ b, M.ksameS x ⟨nm, ag, so⟩ = b := ⟨_, rfl⟩
     rw [hQS] at HX
     refine wp_region_D [(0, 0), (1, 0), (2, 0), (3, 0), (4, 0), (5, 0), (6, 0), (7, 0), (8, 0), (9, 0), (10, 0), (11, 0), (12, 0), (13, 0)] fun wd hb => ?_
     have Ed := hid hb
     replace c0 := hb.cell c0
     replace c1 := hb.cell c1
     replace c2 := hb.cell c2
     have g0 := (HB.out.up hb).k 0 (v := str nm)
     clear hb
     refine WE.p 36 (.int .i64 (k : Int)) ?_
     simp only [Act.put, pA, pB, pC]
     refine WE.p 37 (.slice (some ad) n lc) ?_
     simp only [Act.put, pA, pB, pC]
     refine WE.p 38 (.int .i64 (n : Int)) ?_
     simp only [Act.put, pA, pB, pC]
     refine WE.p 39 (.bool true) ?_
     simp only [Act.put, pA, pB, pC]
     refine WE.p 40 (.bool true) ?_
     simp only [Act.put, pA, pB, pC]
     refine WE.p 41 (.slice (some ad) n lc) ?_
     simp only [Act.put, pA, pB, pC]
     refine WE.p 42 (.int .i64 (k : Int)) ?_
     simp only [Act.put, pA, pB, pC]
     refine WE.p 43 (.pointer (some (ad.add (k * 3)))) ?_
     simp only [Act.put, pA, pB, pC]
     refine WE.p 44 (.pointer (some (ad.add (k * 3)))) ?_
     simp only [Act.put, pA, pB, pC]
     refine WE.q 45 (str x.name) rfl (fun w' hk => by have x0 := hk.cell c0; go_simp) ?_
     simp only [Act.put, pA, pB, pC]
     refine WE.p 46 (.pointer (some ⟨w1.heap.size, 0, none⟩)) ?_
     simp only [Act.put, pA, pB, pC]
     refine WE.q 47 (str nm) rfl (fun w' hk => by have x0 := hk.cell g0; go_simp) ?_
     simp only [Act.put, pA, pB, pC]
     refine WE.q 48 (.bool true) rfl (fun w' hk => by have hf := HE.out; go_simp) ?_
     simp only [Act.put, pA, pB, pC]
     refine WE.p 49 (.bool true) ?_
     simp only [Act.put, pA, pB, pC]
     refine WE.done ?_
     clear g0
     replace HB := hid (HB.out.up Ed.out)
     replace E := hid (E.out.trans Ed.out)
     replace EL := hid (EL.out.trans Ed.out)
     replace HV := hid (HV.out.up Ed.out)
     clear Ed
     have HVw := hid (show IsSg wd x (sgv x.name C x.args.length cc x.ret) from HV.out)
     have HSGw := hid (show IsSg wd ⟨nm, ag, so⟩ (sgv nm B m bd so) from ⟨B, bd, by rw [show (⟨nm, ag, so⟩ : M.Sg).args.length = m from HM.out], by rw [show (⟨nm, ag, so⟩ : M.Sg).args.length = m from HM.out]; exact HIG.out.up EL.out⟩)
     have HC := hid (show ∀ w', Ext wd w' → Calls Tryz.prog 53 #[sgv x.name C x.args.length cc x.ret, sgv nm B m bd so] w' (GivesB w' QS) from fun w' e => hQS ▸ kSameSig_n (HVw.out.up e) (HSGw.out.up e))
     clear hQS HVw HSGw
     go_wp2_with fail
     cases ok
     ·skip
      refine wp_region_D [(0, 0), (1, 0), (2, 0), (3, 0), (4, 0), (5, 0), (6, 0), (7, 1), (8, 0), (9, 0)] fun wd hb => ?_
      have Ed := hid hb
      replace c0 := hb.cell c0
      replace c1 := hb.cell c1
      replace c2 := hb.cell c2
      obtain ⟨g0, g1, g2⟩ := box3b (HB.out.up hb)
      clear hb
      refine WE.p 50 (.bool false) ?_
      simp only [Act.put, pA, pB, pC]
      refine WE.p 51 (.bool false) ?_
      simp only [Act.put, pA, pB, pC]
      refine WE.s 52 ?_
      simp only [Act.put, pA, pB, pC]
      refine WE.s 53 ?_
      simp only [Act.put, pA, pB, pC]
      refine WE.s 54 ?_
      simp only [Act.put, pA, pB, pC]
      refine WE.s 55 ?_
      simp only [Act.put, pA, pB, pC]
      refine WE.s 56 ?_
      simp only [Act.put, pA, pB, pC]
      refine WE.t 57 ?_
      simp only [Act.put, pA, pB, pC]
      refine WE.p 58 (.bool false) ?_
      simp only [Act.put, pA, pB, pC]
      refine WE.p 9 (.bool false) ?_
      simp only [Act.put, pA, pB, pC]
      refine WE.done ?_
      clear c0 c1 c2 g0 g1 g2
      replace HB := hid (HB.out.up Ed.out)
      replace E := hid (E.out.trans Ed.out)
      replace EL := hid (EL.out.trans Ed.out)
      clear Ed
      have HSt := hid (show Sgs wd P0.1 (.slice (some ad) n lc) by rw [HX.out]; exact HS.out.up ((Ext.alloc w _).trans E.out))
      have HP2 := hid (show P0.2 = false by rw [HX.out]; rfl)
      go_wp2_with fail
      go_loopw [8, 9, 12] (fun x y i wr => ∃ (k : Nat) (b : Bool), y = .bool b ∧ i = .int .i64 (k : Int) ∧ k ≤ nk ∧ Hid (Sgs wr (M.ksigss (ks.take k) P0).1 x ∧ (M.ksigss (ks.take k) P0).2 = b ∧ Ext (kboxed w 4 g N nn nc nm so A nk c) wr)) (fun _ _ i _ => nk - (intOf i).toNat)
      case atStart => exact ⟨0, false, rfl, rfl, Nat.zero_le _, by rw [List.take_zero, M.ksigss]; exact HSt.out, by rw [List.take_zero, M.ksigss]; exact HP2.out, E.out⟩
      case round =>
       obtain ⟨k, b, rfl, rfl, hk, hR⟩ := hrel
       obtain ⟨PK, hPK⟩ : ∃ p, M.ksigss (ks.take k) P0 = p := ⟨_, rfl⟩
       rw [hPK] at hR
       have E9 := hid hR.out.2.2
       have HS9 := hid hR.out.1
       obtain rfl := hR.out.2.1
       have HPK := hid hPK
       obtain ⟨⟨b0, b1, b2, b3, b4, b5⟩, hz⟩ := box6 E9.out
       clear hR hPK
       rcases Nat.lt_or_ge k nk with hlt | hge
       ·have hlt' : (k : Int) < (nk : Int) := by omega
        obtain ⟨ad9, u, N', nn', nc', B9, d9, rfl, hu, ⟨c0, c1, c2, c3, c4, c5⟩, hv⟩ := (HK.out.up ((Ext.alloc w _).trans E9.out)).get hlt
        have HU := hid hu
        have hln : PK.1.length + M.kcnt u ≤ 1000000 := by
         have h1 := M.ksigss_len (ks.take k) P0
         rw [HPK.out] at h1
         have h2 := M.kcnts_take hu
         have h3 := M.kcnts_take_le ks (k + 1)
         have h4 := HL0.out
         omega
        obtain ⟨PN, hPN⟩ : ∃ p, M.ksigs u PK = p := ⟨_, rfl⟩
        have HC := hid (show Calls Tryz.prog 48 #[kv u.op u.g N' nn' nc' u.name u.sort B9 u.kids.length d9, u8, .bool PK.2] wr (fun e w' => ∃ v, e = .returned (.tuple #[v, .bool PN.2]) ∧ Sgs w' PN.1 v ∧ Ext wr w') by
         have hcall := IH.out k u hu (l := PK.1) (ok := PK.2) hv HS9.out hln
         rw [show M.ksigs u (PK.1, PK.2) = PN from hPN] at hcall
         exact hcall)
        have HPN := hid (show M.ksigss (ks.take (k + 1)) P0 = PN by rw [M.ksigss_take hu, HPK.out, hPN])
        clear hu hv hln hPN
        go_wp2_with (go_at_call 48; refine HC.out.mono ?_; rintro e w' ⟨v9, rfl, hS9, hb⟩; replace HS9 := hid hS9; replace E9 := hid (E9.out.trans hb); clear hb hS9)
        go_roundw
        case rel => exact ⟨k + 1, PN.2, rfl, by simp, by omega, by rw [HPN.out]; exact HS9.out, by rw [HPN.out], E9.out⟩
        case measure => simp [intOf]; omega
       ·obtain rfl : k = nk := by omega
        go_wp2_with fail
        refine bodyPost_ret (v := .tuple #[u8, .bool PK.2]) (by simp [results, Tryz.results48, go_sem]) rfl ?_
        obtain rfl : res = PK := by rw [HR.out, ← HPK.out, ← HNK.out, List.take_length]
        exact ⟨_, rfl, HS9.out, (Ext.alloc w _).trans E9.out⟩
     ·skip
      refine wp_region_D [(0, 0), (1, 0), (2, 0), (3, 0), (4, 0), (5, 0), (6, 0), (7, 1), (8, 0), (9, 0)] fun wd hb => ?_
      have Ed := hid hb
      replace c0 := hb.cell c0
      replace c1 := hb.cell c1
      replace c2 := hb.cell c2
      obtain ⟨g0, g1, g2⟩ := box3b (HB.out.up hb)
      clear hb
      refine WE.p 50 (.bool true) ?_
      simp only [Act.put, pA, pB, pC]
      refine WE.p 51 (.bool true) ?_
      simp only [Act.put, pA, pB, pC]
      refine WE.p 52 (.slice (some ad) n lc) ?_
      simp only [Act.put, pA, pB, pC]
      refine WE.p 53 (.int .i64 (k : Int)) ?_
      simp only [Act.put, pA, pB, pC]
      refine WE.p 54 (.pointer (some (ad.add (k * 3)))) ?_
      simp only [Act.put, pA, pB, pC]
      refine WE.q 55 (sgv x.name C x.args.length cc x.ret) rfl (fun w' hk => by have x0 := hk.cell c0; have x1 := hk.cell c1; have x2 := hk.cell c2; go_simp) ?_
      simp only [Act.put, pA, pB, pC]
      refine WE.q 56 (sgv nm B m bd so) rfl (fun w' hk => by have x0 := hk.cell g0; have x1 := hk.cell g1; have x2 := hk.cell g2; go_simp) ?_
      simp only [Act.put, pA, pB, pC]
      refine WE.c 57 ((HC.out _ Ed.out).mono ?_)
      rintro e w6 ⟨rfl, hb6⟩
      refine ⟨_, rfl, hb6, ?_⟩
      replace Ed := hid (Ed.out.trans hb6)
      clear hb6
      simp only [Act.put, pA, pB, pC]
      refine WE.p 58 (.bool QS) ?_
      simp only [Act.put, pA, pB, pC]
      refine WE.p 9 (.bool QS) ?_
      simp only [Act.put, pA, pB, pC]
      refine WE.done ?_
      clear c0 c1 c2 g0 g1 g2
      replace HB := hid (HB.out.up Ed.out)
      replace E := hid (E.out.trans Ed.out)
      replace EL := hid (EL.out.trans Ed.out)
      clear Ed
      have HSt := hid (show Sgs w6 P0.1 (.slice (some ad) n lc) by rw [HX.out]; exact HS.out.up ((Ext.alloc w _).trans E.out))
      have HP2 := hid (show P0.2 = QS by rw [HX.out]; simp)
      go_wp2_with fail
      go_loopw [8, 9, 12] (fun x y i wr => ∃ (k : Nat) (b : Bool), y = .bool b ∧ i = .int .i64 (k : Int) ∧ k ≤ nk ∧ Hid (Sgs wr (M.ksigss (ks.take k) P0).1 x ∧ (M.ksigss (ks.take k) P0).2 = b ∧ Ext (kboxed w 4 g N nn nc nm so A nk c) wr)) (fun _ _ i _ => nk - (intOf i).toNat)
      case atStart => exact ⟨0, QS, rfl, rfl, Nat.zero_le _, by rw [List.take_zero, M.ksigss]; exact HSt.out, by rw [List.take_zero, M.ksigss]; exact HP2.out, E.out⟩
      case round =>
       obtain ⟨k, b, rfl, rfl, hk, hR⟩ := hrel
       obtain ⟨PK, hPK⟩ : ∃ p, M.ksigss (ks.take k) P0 = p := ⟨_, rfl⟩
       rw [hPK] at hR
       have E9 := hid hR.out.2.2
       have HS9 := hid hR.out.1
       obtain rfl := hR.out.2.1
       have HPK := hid hPK
       obtain ⟨⟨b0, b1, b2, b3, b4, b5⟩, hz⟩ := box6 E9.out
       clear hR hPK
       rcases Nat.lt_or_ge k nk with hlt | hge
       ·have hlt' : (k : Int) < (nk : Int) := by omega
        obtain ⟨ad9, u, N', nn', nc', B9, d9, rfl, hu, ⟨c0, c1, c2, c3, c4, c5⟩, hv⟩ := (HK.out.up ((Ext.alloc w _).trans E9.out)).get hlt
        have HU := hid hu
        have hln : PK.1.length + M.kcnt u ≤ 1000000 := by
         have h1 := M.ksigss_len (ks.take k) P0
         rw [HPK.out] at h1
         have h2 := M.kcnts_take hu
         have h3 := M.kcnts_take_le ks (k + 1)
         have h4 := HL0.out
         omega
        obtain ⟨PN, hPN⟩ : ∃ p, M.ksigs u PK = p := ⟨_, rfl⟩
        have HC := hid (show Calls Tryz.prog 48 #[kv u.op u.g N' nn' nc' u.name u.sort B9 u.kids.length d9, u8, .bool PK.2] wr (fun e w' => ∃ v, e = .returned (.tuple #[v, .bool PN.2]) ∧ Sgs w' PN.1 v ∧ Ext wr w') by
         have hcall := IH.out k u hu (l := PK.1) (ok := PK.2) hv HS9.out hln
         rw [show M.ksigs u (PK.1, PK.2) = PN from hPN] at hcall
         exact hcall)
        have HPN := hid (show M.ksigss (ks.take (k + 1)) P0 = PN by rw [M.ksigss_take hu, HPK.out, hPN])
        clear hu hv hln hPN
        go_wp2_with (go_at_call 48; refine HC.out.mono ?_; rintro e w' ⟨v9, rfl, hS9, hb⟩; replace HS9 := hid hS9; replace E9 := hid (E9.out.trans hb); clear hb hS9)
        go_roundw
        case rel => exact ⟨k + 1, PN.2, rfl, by simp, by omega, by rw [HPN.out]; exact HS9.out, by rw [HPN.out], E9.out⟩
        case measure => simp [intOf]; omega
       ·obtain rfl : k = nk := by omega
        go_wp2_with fail
        refine bodyPost_ret (v := .tuple #[u8, .bool PK.2]) (by simp [results, Tryz.results48, go_sem]) rfl ?_
        obtain rfl : res = PK := by rw [HR.out, ← HPK.out, ← HNK.out, List.take_length]
        exact ⟨_, rfl, HS9.out, (Ext.alloc w _).trans E9.out⟩
   ·have HP9 := hid (M.kPre_succ HP.out HXK.out HL.out)
    refine wp_region_D [(0, 0), (1, 0), (2, 0), (3, 0), (4, 0), (5, 0), (6, 0), (7, 0), (8, 0), (9, 0), (10, 0), (11, 0), (12, 0), (13, 0)] fun wd hb => ?_
    have Ed := hid hb
    replace c0 := hb.cell c0
    replace c1 := hb.cell c1
    replace c2 := hb.cell c2
    have g0 := (HB.out.up hb).k 0 (v := str nm)
    clear hb
    refine WE.p 20 (.int .i64 (k : Int)) ?_
    simp only [Act.put, pA, pB, pC]
    refine WE.p 21 (.slice (some ad) n lc) ?_
    simp only [Act.put, pA, pB, pC]
    refine WE.p 22 (.int .i64 (n : Int)) ?_
    simp only [Act.put, pA, pB, pC]
    refine WE.p 23 (.bool true) ?_
    simp only [Act.put, pA, pB, pC]
    refine WE.p 24 (.bool true) ?_
    simp only [Act.put, pA, pB, pC]
    refine WE.p 25 (.slice (some ad) n lc) ?_
    simp only [Act.put, pA, pB, pC]
    refine WE.p 26 (.int .i64 (k : Int)) ?_
    simp only [Act.put, pA, pB, pC]
    refine WE.p 27 (.pointer (some (ad.add (k * 3)))) ?_
    simp only [Act.put, pA, pB, pC]
    refine WE.p 28 (.pointer (some (ad.add (k * 3)))) ?_
    simp only [Act.put, pA, pB, pC]
    refine WE.q 29 (str x.name) rfl (fun w' hk => by have x0 := hk.cell c0; go_simp) ?_
    simp only [Act.put, pA, pB, pC]
    refine WE.p 30 (.pointer (some ⟨w1.heap.size, 0, none⟩)) ?_
    simp only [Act.put, pA, pB, pC]
    refine WE.q 31 (str nm) rfl (fun w' hk => by have x0 := hk.cell g0; go_simp) ?_
    simp only [Act.put, pA, pB, pC]
    refine WE.q 32 (.bool true) rfl (fun w' hk => by have hf := HL.out; go_simp) ?_
    simp only [Act.put, pA, pB, pC]
    refine WE.p 33 (.bool true) ?_
    simp only [Act.put, pA, pB, pC]
    refine WE.done ?_
    clear g0
    replace HB := hid (HB.out.up Ed.out)
    replace E := hid (E.out.trans Ed.out)
    replace EL := hid (EL.out.trans Ed.out)
    replace HV := hid (HV.out.up Ed.out)
    clear Ed
    go_wp2_with fail
    go_roundw
    case rel => exact ⟨k + 1, by simp, by omega, ⟨HP9.out, HB.out, EL.out⟩⟩
    case measure => simp [intOf]; omega
  ·obtain rfl : n = k := by omega
   have HX := hid (show P0 = (l.take n ++ [⟨nm, ag, so⟩] ++ l.drop n, ok) by
    have h1 := HP.out
    rw [← HN.out] at h1 ⊢
    rw [← HP0.out]
    exact M.kadd_end h1)
   clear Ew
   go_wp2_with fail
   refine wp_region_D [(0, 0), (1, 0), (2, 0), (3, 0), (4, 0), (5, 0), (6, 0), (7, 0), (8, 0), (9, 0), (10, 0), (11, 0), (12, 0), (13, 0)] fun wd hb => ?_
   have Ed := hid hb
   clear hb
   refine WE.p 20 (.int .i64 (n : Int)) ?_
   simp only [Act.put, pA, pB, pC]
   refine WE.p 21 (.slice LA n lc) ?_
   simp only [Act.put, pA, pB, pC]
   refine WE.p 22 (.int .i64 (n : Int)) ?_
   simp only [Act.put, pA, pB, pC]
   refine WE.p 23 (.bool false) ?_
   simp only [Act.put, pA, pB, pC]
   refine WE.p 24 (.bool false) ?_
   simp only [Act.put, pA, pB, pC]
   refine WE.s 25 ?_
   simp only [Act.put, pA, pB, pC]
   refine WE.s 26 ?_
   simp only [Act.put, pA, pB, pC]
   refine WE.s 27 ?_
   simp only [Act.put, pA, pB, pC]
   refine WE.s 28 ?_
   simp only [Act.put, pA, pB, pC]
   refine WE.s 29 ?_
   simp only [Act.put, pA, pB, pC]
   refine WE.s 30 ?_
   simp only [Act.put, pA, pB, pC]
   refine WE.s 31 ?_
   simp only [Act.put, pA, pB, pC]
   refine WE.s 32 ?_
   simp only [Act.put, pA, pB, pC]
   refine WE.p 33 (.bool false) ?_
   simp only [Act.put, pA, pB, pC]
   refine WE.done ?_
   replace HB := hid (HB.out.up Ed.out)
   replace E := hid (E.out.trans Ed.out)
   replace EL := hid (EL.out.trans Ed.out)
   clear Ed
   go_wp2_with fail
   refine wp_region_D [(0, 0), (1, 0), (2, 0), (3, 0), (4, 0), (5, 0), (6, 0), (7, 0), (8, 0), (9, 0), (10, 0), (11, 0), (12, 0), (13, 0)] fun wd hb => ?_
   have Ed := hid hb
   clear hb
   refine WE.p 36 (.int .i64 (n : Int)) ?_
   simp only [Act.put, pA, pB, pC]
   refine WE.p 37 (.slice LA n lc) ?_
   simp only [Act.put, pA, pB, pC]
   refine WE.p 38 (.int .i64 (n : Int)) ?_
   simp only [Act.put, pA, pB, pC]
   refine WE.p 39 (.bool false) ?_
   simp only [Act.put, pA, pB, pC]
   refine WE.p 40 (.bool false) ?_
   simp only [Act.put, pA, pB, pC]
   refine WE.s 41 ?_
   simp only [Act.put, pA, pB, pC]
   refine WE.s 42 ?_
   simp only [Act.put, pA, pB, pC]
   refine WE.s 43 ?_
   simp only [Act.put, pA, pB, pC]
   refine WE.s 44 ?_
   simp only [Act.put, pA, pB, pC]
   refine WE.s 45 ?_
   simp only [Act.put, pA, pB, pC]
   refine WE.s 46 ?_
   simp only [Act.put, pA, pB, pC]
   refine WE.s 47 ?_
   simp only [Act.put, pA, pB, pC]
   refine WE.s 48 ?_
   simp only [Act.put, pA, pB, pC]
   refine WE.p 49 (.bool false) ?_
   simp only [Act.put, pA, pB, pC]
   refine WE.done ?_
   replace HB := hid (HB.out.up Ed.out)
   replace E := hid (E.out.trans Ed.out)
   replace EL := hid (EL.out.trans Ed.out)
   clear Ed
   go_wp2_with fail
   refine wp_region_F [] [(0, 1), (1, 1), (2, 1), (4, 0), (7, 1), (8, 1), (9, 1)] 3 5 [(6, 3), (10, 3), (11, 2)] fun wd hb => ?_
   have Ed := hid hb
   obtain ⟨g0, g1, g2⟩ := box3b (HB.out.up hb)
   clear hb
   replace E := hid (E.out.trans Ed.out)
   replace EL := hid (EL.out.trans Ed.out)
   have HIW := hid (HIG.out.up EL.out)
   have T1w := hid (T1.out.up E.out)
   have T2w := hid (T2.out.up E.out)
   refine WF.y 59 (.slice LA n lc) ?_
   simp only [Act.put, pA, pB, pC]
   refine WF.y 60 (.int .i64 (n : Int)) ?_
   simp only [Act.put, pA, pB, pC]
   refine WF.y 61 (.slice A1 n lc) ?_ (hy := fun w' => by have hf := HSA.out; go_simp)
   simp only [Act.put, pA, pB, pC]
   refine WF.q 63 (sgv nm B m bd so) rfl (fun w' hk => by have x0 := hk.ext.cell g0; have x1 := hk.ext.cell g1; have x2 := hk.ext.cell g2; go_simp) ?_
   simp only [Act.put, pA, pB, pC]
   refine WF.y 66 (.slice LA n lc) ?_
   simp only [Act.put, pA, pB, pC]
   refine WF.y 67 (.int .i64 (n : Int)) ?_
   simp only [Act.put, pA, pB, pC]
   refine WF.y 68 (.slice A2 n2 ca2) ?_ (hy := fun w' => by have hf := HSB.out; go_simp)
   simp only [Act.put, pA, pB, pC]
   clear g0 g1 g2
   refine WF.fork (n := 62) (m := 64) (R := fun v u w' => OwnS wd w' v (l.take n) ∧ ∃ g, u = .slice (some ⟨g, 0, none⟩) 1 1 ∧ Box w' g #[str nm, .slice B m bd, .int .i64 so] 52 ∧ Ext wd w') rfl rfl rfl rfl (by decide) ?h1b ?h2b ?hrb
   case h1b =>
    obtain ⟨v3, w3, hrun, hO, hB3, hK3⟩ := appS_run (W := wd) (w := wd) (OwnS.nil wd wd) (T1w.out.src fun a u h => h) (by have := HN.out; have := HK5.out; simp [List.length_take]; omega) (Nat.le_refl _) 47
    refine ⟨_, _, kexec_app (.const (.slice none 0 0)) (.tmp 61) rfl rfl rfl hrun, hK3, .slice (some ⟨w3.heap.size, 0, none⟩) 1 1, w3.alloc (.cells #[str nm, .slice B m bd, .int .i64 so] 52), by simp only [Act.put, pA, pB, pC]; go_simp, (Ext.alloc _ _).kept _, (show OwnS wd w3 v3 (l.take n) from hO).up (Ext.alloc _ _), _, rfl, Box.new _ _ _, (show Ext wd w3 from hB3).trans (Ext.alloc _ _)⟩
   case h2b =>
    obtain ⟨v3, w3, hrun, hO, hB3, hK3⟩ := appS_run (W := wd) (w := wd.alloc (.cells #[str nm, .slice B m bd, .int .i64 so] 52)) (OwnS.nil wd _) (T1w.out.src fun a u h => (Ext.alloc wd _).cell h) (by have := HN.out; have := HK5.out; simp [List.length_take]; omega) (Ext.alloc wd _).size 47
    have hK4 : Ext (wd.alloc (.cells #[str nm, .slice B m bd, .int .i64 so] 52)) w3 := Kept.ext hK3
    refine ⟨.slice (some ⟨wd.heap.size, 0, none⟩) 1 1, wd.alloc (.cells #[str nm, .slice B m bd, .int .i64 so] 52), by go_simp, (Ext.alloc _ _).kept _, v3, w3, kexec_app (.const (.slice none 0 0)) (.tmp 61) rfl rfl (by simp only [Act.put, pA, pB, pC]; rfl) hrun, hK3, hO, _, rfl, (Box.new wd #[str nm, .slice B m bd, .int .i64 so] 52).up hK4, (Ext.alloc wd _).trans hK4⟩
   rintro v3 u3 w3 ⟨hO3, gb, rfl, hBg, hE3⟩
   simp only [Act.put, pA, pB, pC]
   obtain ⟨v6, w6, hrun6, hO6, hB6, -⟩ := appS_run hO3 (sgSrc_one (s := ⟨nm, ag, so⟩) hBg HIW.out) (by have := HN.out; have := HK5.out; simp [List.length_take]; omega) hE3.size 47
   have hE6 : Ext wd w6 := hE3.trans_below hB6
   refine WK.late 65 rfl (kexec_app (.tmp 62) (.tmp 64) rfl rfl rfl hrun6) ?_
   simp only [Act.put, pA, pB, pC]
   obtain ⟨v8, w8, hrun8, hO8, hB8, -⟩ := appS_run hO6 (T2w.out.src fun a u h => hE6.cell h) (by have := HN.out; have := HK5.out; simp [List.length_take, List.length_drop]; omega) hE6.size 47
   have hE8 : Ext wd w8 := hE6.trans_below hB8
   refine WK.late 69 rfl (kexec_app (.tmp 65) (.tmp 68) rfl rfl rfl hrun8) ?_
   simp only [Act.put, pA, pB, pC]
   have HSt := hid (show Sgs w8 P0.1 v8 by rw [HX.out]; exact hO8.sgs hE8)
   have HP2 := hid (show P0.2 = ok by rw [HX.out])
   replace E := hid (E.out.trans hE8)
   clear hrun6 hO6 hB6 hE6 hrun8 hO8 hB8 hE8 hO3 hBg hE3
   refine WK.y 8 v8 ?_
   simp only [Act.put, pA, pB, pC]
   refine WK.done ?_
   go_wp2_with fail
   go_loopw [8, 9, 12] (fun x y i wr => ∃ (k : Nat) (b : Bool), y = .bool b ∧ i = .int .i64 (k : Int) ∧ k ≤ nk ∧ Hid (Sgs wr (M.ksigss (ks.take k) P0).1 x ∧ (M.ksigss (ks.take k) P0).2 = b ∧ Ext (kboxed w 4 g N nn nc nm so A nk c) wr)) (fun _ _ i _ => nk - (intOf i).toNat)
   case atStart => exact ⟨0, ok, rfl, rfl, Nat.zero_le _, by rw [List.take_zero, M.ksigss]; exact HSt.out, by rw [List.take_zero, M.ksigss]; exact HP2.out, E.out⟩
   case round =>
    obtain ⟨k, b, rfl, rfl, hk, hR⟩ := hrel
    obtain ⟨PK, hPK⟩ : ∃ p, M.ksigss (ks.take k) P0 = p := ⟨_, rfl⟩
    rw [hPK] at hR
    have E9 := hid hR.out.2.2
    have HS9 := hid hR.out.1
    obtain rfl := hR.out.2.1
    have HPK := hid hPK
    obtain ⟨⟨b0, b1, b2, b3, b4, b5⟩, hz⟩ := box6 E9.out
    clear hR hPK
    rcases Nat.lt_or_ge k nk with hlt | hge
    ·have hlt' : (k : Int) < (nk : Int) := by omega
     obtain ⟨ad9, u, N', nn', nc', B9, d9, rfl, hu, ⟨c0, c1, c2, c3, c4, c5⟩, hv⟩ := (HK.out.up ((Ext.alloc w _).trans E9.out)).get hlt
     have HU := hid hu
     have hln : PK.1.length + M.kcnt u ≤ 1000000 := by
      have h1 := M.ksigss_len (ks.take k) P0
      rw [HPK.out] at h1
      have h2 := M.kcnts_take hu
      have h3 := M.kcnts_take_le ks (k + 1)
      have h4 := HL0.out
      omega
     obtain ⟨PN, hPN⟩ : ∃ p, M.ksigs u PK = p := ⟨_, rfl⟩
     have HC := hid (show Calls Tryz.prog 48 #[kv u.op u.g N' nn' nc' u.name u.sort B9 u.kids.length d9, u8, .bool PK.2] wr (fun e w' => ∃ v, e = .returned (.tuple #[v, .bool PN.2]) ∧ Sgs w' PN.1 v ∧ Ext wr w') by
      have hcall := IH.out k u hu (l := PK.1) (ok := PK.2) hv HS9.out hln
      rw [show M.ksigs u (PK.1, PK.2) = PN from hPN] at hcall
      exact hcall)
     have HPN := hid (show M.ksigss (ks.take (k + 1)) P0 = PN by rw [M.ksigss_take hu, HPK.out, hPN])
     clear hu hv hln hPN
     go_wp2_with (go_at_call 48; refine HC.out.mono ?_; rintro e w' ⟨v9, rfl, hS9, hb⟩; replace HS9 := hid hS9; replace E9 := hid (E9.out.trans hb); clear hb hS9)
     go_roundw
     case rel => exact ⟨k + 1, PN.2, rfl, by simp, by omega, by rw [HPN.out]; exact HS9.out, by rw [HPN.out], E9.out⟩
     case measure => simp [intOf]; omega
    ·obtain rfl : k = nk := by omega
     go_wp2_with fail
     refine bodyPost_ret (v := .tuple #[u8, .bool PK.2]) (by simp [results, Tryz.results48, go_sem]) rfl ?_
     obtain rfl : res = PK := by rw [HR.out, ← HPK.out, ← HNK.out, List.take_length]
     exact ⟨_, rfl, HS9.out, (Ext.alloc w _).trans E9.out⟩
end Go.Proofs.YtkhmgdfhggejaaaGreatDoor.Q

