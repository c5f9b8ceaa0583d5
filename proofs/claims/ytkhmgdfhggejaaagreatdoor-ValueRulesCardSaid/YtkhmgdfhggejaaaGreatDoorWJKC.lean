/-
  Layer 10, the reference: terms made.
-/
import Derived.Test.YtkhmgdfhggejaaaGreatDoorWKIs
namespace Go.Proofs.YtkhmgdfhggejaaaGreatDoor.Q
set_option linter.unusedSimpArgs false
set_option linter.unusedVariables false
open Go.RowKit
def Ints (w : World) (l : List Int) (v : Value) : Prop := ∃ A n c, v = .slice A n c ∧ n = l.length ∧ n ≤ c ∧ c ≤ maxLen ∧ (l ≠ [] → ∃ ad, A = some ad ∧ ad.block < w.heap.size ∧ ∀ k x, l[k]? = some x → w.cell? (ad.add k) = some (.int .i64 x))
theorem Ints.up {w w' : World} {l : List Int} {v : Value} (h : Ints w l v) (e : Ext w w') : Ints w' l v := by
 obtain ⟨A, n, c, h1, h2, h3, h4, h5⟩ := h
 refine ⟨A, n, c, h1, h2, h3, h4, fun hne => ?_⟩
 obtain ⟨ad, ha, hb, hc⟩ := h5 hne
 exact ⟨ad, ha, Nat.lt_of_lt_of_le hb e.size, fun k x hk => e.cell (hc k x hk)⟩
theorem Ints.le {w : World} {A : Option Addr} {n c : Nat} {l : List Int} (h : Ints w l (.slice A n c)) : n = l.length ∧ n ≤ c ∧ c ≤ 9223372036854775807 := by
 obtain ⟨A', n', c', e, h2, h3, h4, _⟩ := h
 injection e with e1 e2 e3
 subst e1 e2 e3
 exact ⟨h2, h3, by unfold maxLen at h4; omega⟩
theorem Ints.shape {w : World} {l : List Int} {v : Value} (h : Ints w l v) : ∃ A c, v = .slice A l.length c := by
 obtain ⟨A, n, c, h1, h2, _⟩ := h
 exact ⟨A, c, by rw [h1, h2]⟩
theorem Ints.get {w : World} {A : Option Addr} {n c : Nat} {l : List Int} (h : Ints w l (.slice A n c)) {k : Nat} (hk : k < n) : ∃ ad x, A = some ad ∧ l[k]? = some x ∧ w.cell? (ad.add k) = some (.int .i64 x) := by
 obtain ⟨A', n', c', e, h2, h3, h4, h5⟩ := h
 injection e with e1 e2 e3
 subst e1 e2 e3
 obtain ⟨ad, ha, hb, hc⟩ := h5 (by intro e; subst e; simp at h2; omega)
 have hx : l[k]? = some l[k] := List.getElem?_eq_getElem (by omega)
 exact ⟨ad, _, ha, hx, hc k _ hx⟩
abbrev sgv (nm : List UInt8) (A : Option Addr) (n c : Nat) (r : Int) : Value := .agg #[str nm, .slice A n c, .int .i64 r]
def IsSg (w : World) (s : M.Sg) (v : Value) : Prop := ∃ A c, v = sgv s.name A s.args.length c s.ret ∧ Ints w s.args (.slice A s.args.length c)
theorem IsSg.up {w w' : World} {s : M.Sg} {v : Value} (h : IsSg w s v) (e : Ext w w') : IsSg w' s v := by
 obtain ⟨A, c, h1, h2⟩ := h
 exact ⟨A, c, h1, h2.up e⟩
def GivesTm (w : World) (r : M.Tm × Int) (e : Ending) (w' : World) : Prop := ∃ v, e = .returned (.tuple #[v, .int .i64 r.2]) ∧ IsTm w' r.1 v ∧ Ext w w'
def GivesT1 (w : World) (t : M.Tm) (e : Ending) (w' : World) : Prop := ∃ v, e = .returned v ∧ IsTm w' t v ∧ Ext w w'
abbrev zero6 : Array Value := #[.int .i64 0, .bool false, .slice none 0 0, .string ⟨#[]⟩, .int .i64 0, .slice none 0 0]
theorem boxF6 {w : World} {k : Nat} {x0 x1 x2 x3 x4 x5 : Value} {T : TypeId} (h : Box w k #[x0, x1, x2, x3, x4, x5] T) : (w.cell? ⟨k, 0, none⟩ = some x0 ∧ w.cell? ⟨k, 1, none⟩ = some x1 ∧ w.cell? ⟨k, 2, none⟩ = some x2 ∧ w.cell? ⟨k, 3, none⟩ = some x3 ∧ w.cell? ⟨k, 4, none⟩ = some x4 ∧ w.cell? ⟨k, 5, none⟩ = some x5) ∧
 (w.frozen? ⟨k, 0, none⟩ = false ∧ w.frozen? ⟨k, 1, none⟩ = false ∧ w.frozen? ⟨k, 2, none⟩ = false ∧ w.frozen? ⟨k, 3, none⟩ = false ∧ w.frozen? ⟨k, 4, none⟩ = false ∧ w.frozen? ⟨k, 5, none⟩ = false) ∧ k < w.heap.size :=
 ⟨⟨h.k 0, h.k 1, h.k 2, h.k 3, h.k 4, h.k 5⟩, ⟨h.free 0, h.free 1, h.free 2, h.free 3, h.free 4, h.free 5⟩, h.lt⟩
abbrev put6 (w : World) (k : Nat) (x0 x1 x2 x3 x4 x5 : Value) : World := (((((w.setCell ⟨k, 0, none⟩ x0).setCell ⟨k, 1, none⟩ x1).setCell ⟨k, 2, none⟩ x2).setCell ⟨k, 3, none⟩ x3).setCell ⟨k, 4, none⟩ x4).setCell ⟨k, 5, none⟩ x5
theorem put6_ext {w w1 : World} {k : Nat} {x0 x1 x2 x3 x4 x5 : Value} (e : Ext w w1) (hk : w.heap.size ≤ k) : Ext w (put6 w1 k x0 x1 x2 x3 x4 x5) := (((((e.set' hk _).set' hk _).set' hk _).set' hk _).set' hk _).set' hk _
theorem num_put6 {w : World} {v : Value} {ls : List Nat} {k : Nat} {y0 y1 y2 y3 y4 y5 x0 x1 x2 x3 x4 x5 : Value} {T : TypeId} (h : LNum w v ls) (hb : Box w k #[y0, y1, y2, y3, y4, y5] T) (hno : noLimb #[y0, y1, y2, y3, y4, y5] = true) : LNum (put6 w k x0 x1 x2 x3 x4 x5) v ls :=
 Num.kz h (keeps_store hb hno ((((((kept_setAt x0).trans (kept_setAt x1)).trans (kept_setAt x2)).trans (kept_setAt x3)).trans (kept_setAt x4)).trans (kept_setAt x5)))
def M.knumT (Z : Int) : M.Tm := .mk 1 (decide (Z < 0)) (M.limbs Z.natAbs) [] 2 []
theorem worth_shape {w : World} {v : Value} {Z : Int} {k : Nat} (h : Worth w v Z k) : ∃ g A n c, v = .agg #[.bool g, .slice A n c] := Worth.shape h
def GivesTmX (w : World) (r : M.Tm × Int) (op rs : Int) (l : List M.Tm) (lv : Value) (e : Ending) (w' : World) : Prop := ∃ v, e = .returned (.tuple #[v, .int .i64 r.2]) ∧ ((r.1 = M.K0 ∧ v = kv 0 false none 0 0 [] 0 none 0 0) ∨ (r.1 = .mk op false [] [] rs l ∧ v = .agg #[.int .i64 op, .bool false, .slice none 0 0, str [], .int .i64 rs, lv])) ∧ Ext w w'
set_option maxHeartbeats 16000000 in
set_option maxRecDepth 100000 in
theorem kMake_nx {op : Int} {l : List M.Tm} {A : Option Addr} {n0 c : Nat} {w : World} (ht : Tms w l (.slice A n0 c)) (hf : ∀ t ∈ l, M.kfew t = true) : Calls Tryz.prog 35 #[.int .i64 op, .slice A n0 c] w (GivesTmX w (M.kmake op l) op (M.kres op l) l (.slice A n0 c)) := by
 obtain rfl : n0 = l.length := ht.le.1
 obtain ⟨hl1, hl2, hl3⟩ := ht.le
 obtain ⟨n, hn'⟩ : ∃ n, l.length = n := ⟨_, rfl⟩
 rw [hn'] at ht hl2 ⊢
 have HT := hid ht
 have HN := hid hn'
 have HF := hid hf
 obtain ⟨G, hG⟩ : ∃ G, w.heap.size = G := ⟨_, rfl⟩
 have HG := hid hG
 obtain ⟨R, hR⟩ : ∃ R, M.kmake op l = R := ⟨_, rfl⟩
 obtain ⟨rs, hrs⟩ : ∃ rs, M.kres op l = rs := ⟨_, rfl⟩
 have hR2 : R = (if op < 5 ∨ 22 < op then (M.K0, 10) else if M.kargs op n = false then (M.K0, 18) else if M.kIss l = false then (M.K0, 10) else if M.kcheck op l ≠ 0 then (M.K0, M.kcheck op l) else (.mk op false [] [] rs l, 0)) := by rw [← hR, ← hn', ← hrs]; rfl
 have HRR := hid hR2
 have HRS0 := hid hrs
 rw [hR, hrs]
 clear ht hl1 hn' hf hG hR hR2 hrs
 rcases (show op < 5 ∨ 22 < op ∨ (5 ≤ op ∧ op ≤ 22) by omega) with h5 | h22 | hop
 ·have HR := hid (show R = (M.K0, 10) by rw [HRR.out, if_pos (.inl h5)])
  go_enter Tryz.func35, Tryz.ntmps35
  go_wp2_with fail
  refine bodyPost_ret (v := .tuple #[kv 0 false none 0 0 [] 0 none 0 0, .int .i64 10]) (by simp [results, Tryz.results35, go_sem]) rfl ?_
  rw [HR.out]
  exact ⟨_, rfl, .inl ⟨rfl, rfl⟩, Ext.alloc _ _⟩
 ·have HR := hid (show R = (M.K0, 10) by rw [HRR.out, if_pos (.inr h22)])
  have hq : decide (op < 5) = false := by simp; omega
  go_enter Tryz.func35, Tryz.ntmps35
  go_wp2_with fail
  refine bodyPost_ret (v := .tuple #[kv 0 false none 0 0 [] 0 none 0 0, .int .i64 10]) (by simp [results, Tryz.results35, go_sem]) rfl ?_
  rw [HR.out]
  exact ⟨_, rfl, .inl ⟨rfl, rfl⟩, Ext.alloc _ _⟩
 have hq5 : decide (op < 5) = false := by simp; omega
 have hq22 : decide (22 < op) = false := by simp; omega
 have hR2 := HRR.out
 rw [if_neg (by omega)] at hR2
 obtain ⟨ar, har⟩ : ∃ ar, M.kargs op n = ar := ⟨_, rfl⟩
 have HA := hid (show ∀ w', Calls Tryz.prog 61 #[.int .i64 op, .int .i64 (n : Int)] w' (GivesB w' ar) from fun w' => har ▸ kargs_n hop n w')
 rw [har] at hR2
 cases ar
 ·have HR := hid (show R = (M.K0, 18) by rw [hR2, if_pos rfl])
  clear hR2 har
  go_enter Tryz.func35, Tryz.ntmps35
  go_wp2_with fail
  refine (HA.out _).mono ?_
  rintro e w1 ⟨rfl, hx⟩
  have hbx : Ext (w.alloc (.cells zero6 27)) w1 := hx
  obtain ⟨⟨r0, r1, r2, r3, r4, r5⟩, ⟨q0, q1, q2, q3, q4, q5⟩, hz⟩ := boxF6 ((Box.new w zero6 27).up hbx)
  have E := hid (show Ext w w1 from (Ext.alloc w _).trans hbx)
  clear hx hbx
  go_wp2_with fail
  refine bodyPost_ret (v := .tuple #[kv 0 false none 0 0 [] 0 none 0 0, .int .i64 18]) (by simp [results, Tryz.results35, go_sem, r0, r1, r2, r3, r4, r5, hz]) rfl ?_
  rw [HR.out]
  exact ⟨_, rfl, .inl ⟨rfl, rfl⟩, put6_ext E.out (Nat.le_refl _)⟩
 rw [if_neg (by decide)] at hR2
 have HR2 := hid hR2
 have har2 := hid (show M.kargs op l.length = true by rw [HN.out]; exact har)
 clear hR2 har
 go_enter Tryz.func35, Tryz.ntmps35
 go_wp2_with fail
 refine (HA.out _).mono ?_
 rintro e w1 ⟨rfl, hx⟩
 have E1 := hid (show Ext (w.alloc (.cells zero6 27)) w1 from hx)
 clear hx
 go_wp2_with fail
 go_loopw [6] (fun i wr => ∃ (k : Nat), i = .int .i64 (k : Int) ∧ k ≤ n ∧ Hid (M.kIss (l.take k) = true ∧ Ext (w.alloc (.cells zero6 27)) wr)) (fun i _ => n - (intOf i).toNat)
 case atStart => exact ⟨0, rfl, Nat.zero_le _, by simp [M.kIss], E1.out⟩
 case round =>
  obtain ⟨k, rfl, hk, hR⟩ := hrel
  have E := hid hR.out.2
  have HS := hid hR.out.1
  clear hR
  rcases Nat.lt_or_ge k n with hlt | hge
  ·have hlt' : (k : Int) < (n : Int) := by omega
   obtain ⟨ad, u, N', nn', nc', B, d, rfl, hu, ⟨c0, c1, c2, c3, c4, c5⟩, hv⟩ := (HT.out.up ((Ext.alloc w _).trans E.out)).get hlt
   have HU := hid hu
   have HC := hid (rkIs_n u hv (HF.out u (List.mem_of_getElem? hu)))
   obtain ⟨q, hq'⟩ : ∃ q, M.kIs u = q := ⟨_, rfl⟩
   have HQ := hid hq'
   rw [hq'] at HC
   clear hu hv hq'
   cases q
   ·have HR := hid (show R = (M.K0, 10) by rw [HR2.out, if_pos (M.not_kIss HU.out HQ.out)])
    go_wp2_with fail
    refine HC.out.mono ?_
    rintro e w2 ⟨rfl, hx⟩
    replace E := hid (E.out.trans hx)
    obtain ⟨⟨r0, r1, r2, r3, r4, r5⟩, ⟨q0, q1, q2, q3, q4, q5⟩, hz⟩ := boxF6 ((Box.new w zero6 27).up E.out)
    clear hx
    go_wp2_with fail
    refine bodyPost_ret (v := .tuple #[kv 0 false none 0 0 [] 0 none 0 0, .int .i64 10]) (by simp [results, Tryz.results35, go_sem, r0, r1, r2, r3, r4, r5, hz]) rfl ?_
    rw [HR.out]
    exact ⟨_, rfl, .inl ⟨rfl, rfl⟩, put6_ext ((Ext.alloc w _).trans E.out) (Nat.le_refl _)⟩
   ·go_wp2_with fail
    refine HC.out.mono ?_
    rintro e w2 ⟨rfl, hx⟩
    replace E := hid (E.out.trans hx)
    clear hx
    go_wp2_with fail
    go_roundw
    case rel => exact ⟨k + 1, by simp, by omega, by rw [M.kIss_take HU.out, HS.out, HQ.out]; rfl, E.out⟩
    case measure => simp [intOf]; omega
  ·obtain rfl : n = k := by omega
   have hR3 := HR2.out
   have h1 := HS.out
   rw [← HN.out, List.take_length] at h1
   rw [if_neg (by rw [h1]; decide)] at hR3
   obtain ⟨ck, hck⟩ : ∃ ck, M.kcheck op l = ck := ⟨_, rfl⟩
   have HK := hid (show ∀ w', Ext w w' → Calls Tryz.prog 62 #[.int .i64 op, .slice A n c] w' (GivesN w' ck) from fun w' e => hck ▸ kcheck_n hop (HT.out.up e) har2.out)
   have HRS := hid (show ∀ w', Ext w w' → Calls Tryz.prog 63 #[.int .i64 op, .slice A n c] w' (GivesN w' rs) from fun w' e => HRS0.out ▸ kres_n hop (HT.out.up e) har2.out)
   rw [hck] at hR3
   clear h1 hck hge hk
   by_cases hc0 : ck = 0
   case neg =>
    have HR := hid (show R = (M.K0, ck) by rw [hR3, if_pos hc0])
    have hq : (ck != 0) = true := by simpa using hc0
    clear hR3 hc0
    go_wp2_with fail
    refine (HK.out _ ((Ext.alloc w _).trans E.out)).mono ?_
    rintro e w2 ⟨rfl, hx⟩
    replace E := hid (E.out.trans hx)
    obtain ⟨⟨r0, r1, r2, r3, r4, r5⟩, ⟨q0, q1, q2, q3, q4, q5⟩, hz⟩ := boxF6 ((Box.new w zero6 27).up E.out)
    clear hx
    go_wp2_with fail
    refine bodyPost_ret (v := .tuple #[kv 0 false none 0 0 [] 0 none 0 0, .int .i64 ck]) (by simp [results, Tryz.results35, go_sem, r0, r1, r2, r3, r4, r5, hz]) rfl ?_
    rw [HR.out]
    exact ⟨_, rfl, .inl ⟨rfl, rfl⟩, put6_ext ((Ext.alloc w _).trans E.out) (Nat.le_refl _)⟩
   case pos =>
    subst hc0
    have HR := hid (show R = (.mk op false [] [] rs l, 0) by rw [hR3, if_neg (by decide)])
    clear hR3
    go_wp2_with fail
    refine (HK.out _ ((Ext.alloc w _).trans E.out)).mono ?_
    rintro e w2 ⟨rfl, hx⟩
    replace E := hid (E.out.trans hx)
    clear hx
    go_wp2_with fail
    refine (HRS.out _ ((Ext.alloc w _).trans E.out)).mono ?_
    rintro e w3 ⟨rfl, hx⟩
    replace E := hid (E.out.trans hx)
    obtain ⟨⟨r0, r1, r2, r3, r4, r5⟩, ⟨q0, q1, q2, q3, q4, q5⟩, hz⟩ := boxF6 ((Box.new w zero6 27).up E.out)
    clear hx
    go_wp2_with fail
    refine bodyPost_ret (v := .tuple #[kv op false none 0 0 [] rs A n c, .int .i64 0]) (by simp [results, Tryz.results35, go_sem, r0, r1, r2, r3, r4, r5, hz]) rfl ?_
    rw [HR.out]
    have EF : Ext w (put6 w3 w.heap.size (.int .i64 op) (.bool false) (.slice none 0 0) (.string ⟨#[]⟩) (.int .i64 rs) (.slice A n c)) := put6_ext ((Ext.alloc w _).trans E.out) (Nat.le_refl _)
    exact ⟨_, rfl, .inr ⟨rfl, rfl⟩, EF⟩
theorem kMake_n {op : Int} {l : List M.Tm} {v : Value} {w : World} (ht : Tms w l v) (hf : ∀ t ∈ l, M.kfew t = true) : Calls Tryz.prog 35 #[.int .i64 op, v] w (GivesTm w (M.kmake op l)) := by
 obtain ⟨A, c, rfl⟩ := ht.shape
 refine (kMake_nx ht hf).mono ?_
 rintro e w' ⟨v, rfl, hv, hx⟩
 refine ⟨_, rfl, ?_, hx⟩
 rcases hv with ⟨h1, rfl⟩ | ⟨h1, rfl⟩
 ·rw [h1]; exact IsTm.zero _
 ·rw [h1]; exact ⟨none, 0, 0, A, c, rfl, LNum.nil _, ht.up hx⟩
end Go.Proofs.YtkhmgdfhggejaaaGreatDoor.Q
