/-
  Contracts of package term: Num, Bool, App, Make.
-/
import Derived.Test.YtaoboilkpgphaaaDoorKTMade
namespace Go.Proofs.YtaoboilkpgphaaaDoor.Q
set_option linter.unusedSimpArgs false
set_option linter.unusedVariables false
open Go.RowKit

theorem new_putG {w1 w2 : World} {t : M.Tm} {v : Value} {k B : Nat} {x0 x1 x2 x3 x4 x5 : Value} (h : IsTm (gp (fun b => w1.heap.size ≤ b) w2) t v) (hk : k < w1.heap.size) (hB : B ≤ w1.heap.size) : IsTm (gp (fun b => B ≤ b) (put6 w2 k x0 x1 x2 x3 x4 x5)) t v :=
 h.sub (gp_mono (q := fun b => B ≤ b) (w' := put6 w2 k x0 x1 x2 x3 x4 x5) (by simp) fun b h1 h2 => ⟨by omega, put6_kept.2 b h1 (by simp; omega)⟩)
theorem new_put {w1 w2 : World} {t : M.Tm} {v : Value} {k : Nat} {x0 x1 x2 x3 x4 x5 : Value} (h : IsTm (gp (fun b => w1.heap.size ≤ b) w2) t v) (hk : k < w1.heap.size) : IsTm (put6 w2 k x0 x1 x2 x3 x4 x5) t v :=
 (new_putG h hk (Nat.le_refl _)).sub (gp_sub _ _)
/-- A term on new memory, an error. -/
def GivesTmN (w : World) (r : M.Tm × Int) (e : Ending) (w' : World) : Prop := ∃ v, e = .returned (.tuple #[v, .int .i64 r.2]) ∧ IsTm (gp (fun b => w.heap.size ≤ b) w') r.1 v ∧ Ext w w'
/-- What bounded gives. -/
def M.kbound (t : M.Tm) : M.Tm × Int := if 400 < 1 + M.kcnts t.kids then (M.K0, 11) else (t, 0)
set_option maxHeartbeats 8000000 in
theorem bounded_n {ks : List M.Tm} {op : Int} {g : Bool} {ls : List Nat} {nm : List UInt8} {so : Int} {N0 : Option Addr} {nn0 nc0 : Nat} {A0 : Option Addr} {n0 c0 : Nat} {v : Value} {w : World} (hfew : M.kfews ks = true) (hnm : nm.length ≤ 1000000000000) (hls : ls.length ≤ 1000000)
 (hn : LNum w (.slice N0 nn0 nc0) ls) (hk : Tms w ks v) : Calls Tryd.prog 47 #[kv op g N0 nn0 nc0 nm so A0 n0 c0, v] w (GivesTmN w (M.kbound (.mk op g ls nm so ks))) := by
 obtain ⟨A, c, rfl⟩ := hk.shape
 obtain ⟨hl1, hl2, hl3⟩ := hk.le
 obtain ⟨n, hnn⟩ : ∃ n, ks.length = n := ⟨_, rfl⟩
 rw [hnn] at hk ⊢
 obtain ⟨m, hm⟩ : ∃ m, min (1 + M.kcnts ks) 401 = m := ⟨_, rfl⟩
 have HC := hid (show ∀ w', Ext w w' → Calls Tryd.prog 36 #[.int .i64 1, .slice A n c] w' (GivesI w' (m : Int)) from fun w' e => hm ▸ counted_any (m := 1) (hk.up e) (by omega))
 have HMD := hid (show M.kcnts ks ≤ 1000 → ∀ w', Ext w w' → Calls Tryd.prog 56 #[kv op g N0 nn0 nc0 nm so A0 n0 c0, .slice A n c] w' (GivesTN w' (.mk op g ls nm so ks)) from fun hc w' e => made_n (M.kcnts ks + 1) (Nat.lt_succ_self _) hc hfew hnm hls (hn.up e) (hk.up e))
 have HB := hid (show Box ((w.alloc (.cells #[.int .i64 op, .bool g, .slice N0 nn0 nc0, str nm, .int .i64 so, .slice A0 n0 c0] 27)).alloc (.cells zero6 27)) w.heap.size #[.int .i64 op, .bool g, .slice N0 nn0 nc0, str nm, .int .i64 so, .slice A0 n0 c0] 27 from (Box.new w _ _).alloc _)
 have HR := hid (show Box ((w.alloc (.cells #[.int .i64 op, .bool g, .slice N0 nn0 nc0, str nm, .int .i64 so, .slice A0 n0 c0] 27)).alloc (.cells zero6 27)) (w.heap.size + 1) zero6 27 from Box.at_ (w := w.alloc (.cells #[.int .i64 op, .bool g, .slice N0 nn0 nc0, str nm, .int .i64 so, .slice A0 n0 c0] 27)) _ _ (by simp))
 obtain ⟨T, hT⟩ : ∃ T, M.Tm.mk op g ls nm so ks = T := ⟨_, rfl⟩
 have hTk : T.kids = ks := by rw [← hT]; rfl
 rw [hT] at HMD ⊢
 by_cases hc : 400 < 1 + M.kcnts ks
 ·have HRR := hid (show M.kbound T = (M.K0, 11) by unfold M.kbound; rw [hTk, if_pos hc])
  have hm4 : 400 < (m : Int) := by omega
  clear hfew hnm hls hn hk hl1 hl2 hl3 hnn hm HMD hT hTk hc
  go_enter Tryd.func47, Tryd.ntmps47
  go_wp2_with fail
  refine (HC.out _ (alloc_two w _ _)).mono ?_
  rintro e w1 ⟨rfl, hb⟩
  obtain ⟨⟨r0, r1, r2, r3, r4, r5⟩, ⟨f0, f1, f2, f3, f4, f5⟩, hzr⟩ := boxF6 (HR.out.up hb)
  have E := hid ((alloc_two w _ _).trans hb)
  clear hb
  go_wp2_with fail
  refine bodyPost_ret (v := .tuple #[kv 0 false none 0 0 [] 0 none 0 0, .int .i64 11]) (by simp [results, Tryd.results47, go_sem, r0, r1, r2, r3, r4, r5, hzr]) rfl ?_
  rw [HRR.out]
  exact ⟨_, rfl, IsTm.zero _, put6_ext E.out (by omega)⟩
 ·have HRR := hid (show M.kbound T = (T, 0) by unfold M.kbound; rw [hTk, if_neg hc])
  have hm4 : decide (400 < (m : Int)) = false := by simp; omega
  replace HMD := hid (HMD.out (by omega))
  clear hfew hnm hls hn hk hl1 hl2 hl3 hnn hm hT hTk hc
  go_enter Tryd.func47, Tryd.ntmps47
  go_wp2_with fail
  refine (HC.out _ (alloc_two w _ _)).mono ?_
  rintro e w1 ⟨rfl, hb⟩
  obtain ⟨⟨b0, b1, b2, b3, b4, b5⟩, -, hzb⟩ := boxF6 (HB.out.up hb)
  replace HR := hid (HR.out.up hb)
  have E := hid ((alloc_two w _ _).trans hb)
  clear hb
  go_wp2_with fail
  refine (HMD.out _ E.out).mono ?_
  rintro e w2 ⟨v2, rfl, hv, hb⟩
  have hlt := HR.out.lt
  have hws : w.heap.size ≤ w1.heap.size := E.out.size
  have HV := hid (fun x0 x1 x2 x3 x4 x5 => new_putG (B := w.heap.size) (x0 := x0) (x1 := x1) (x2 := x2) (x3 := x3) (x4 := x4) (x5 := x5) hv hlt hws)
  obtain ⟨N2, nn2, nc2, A2, n2, c2, rfl, -, -, -, -, -, -⟩ := hv.shape
  obtain ⟨⟨r0, r1, r2, r3, r4, r5⟩, ⟨f0, f1, f2, f3, f4, f5⟩, hzr⟩ := boxF6 (HR.out.up hb)
  replace E := hid (E.out.trans hb)
  clear hb hv hlt hws b0 b1 b2 b3 b4 b5 hzb
  go_wp2_with fail
  refine bodyPost_ret (v := .tuple #[kv T.op T.g N2 nn2 nc2 T.name T.sort A2 n2 c2, .int .i64 0]) (by simp [results, Tryd.results47, go_sem, r0, r1, r2, r3, r4, r5, hzr]) rfl ?_
  rw [HRR.out]
  exact ⟨_, rfl, HV.out _ _ _ _ _ _, put6_ext E.out (by omega)⟩
theorem made_none {op : Int} {g : Bool} {ls : List Nat} {nm : List UInt8} {so : Int} {N0 : Option Addr} {nn0 nc0 : Nat} {w : World} (hnm : nm.length ≤ 1000000000000) (hls : ls.length ≤ 1000000) (hn : LNum w (.slice N0 nn0 nc0) ls) :
 Calls Tryd.prog 56 #[kv op g N0 nn0 nc0 nm so none 0 0, .slice none 0 0] w (GivesTN w (.mk op g ls nm so [])) :=
 made_n 1 (by simp [M.kcnts]) (by simp [M.kcnts]) (by simp [M.kfews]) hnm hls hn (Tms.nil w)
set_option maxHeartbeats 4000000 in
theorem bool_t (b : Bool) (w : World) : Calls Tryd.prog 28 #[.bool b] w (GivesT1 w (.mk (if b = true then 2 else 3) false [] [] 1 [])) := by
 have HM := hid (fun op w' => made_none (op := op) (g := false) (ls := []) (nm := []) (so := 1) (by simp) (by simp) (LNum.nil w'))
 have HR := hid (Box.new w zero6 27)
 cases b
 case' true => have ho : (if true = true then (2 : Int) else 3) = 2 := rfl
 case' false => have ho : (if false = true then (2 : Int) else 3) = 3 := rfl
 all_goals
  rw [ho]
  clear ho
  go_enter Tryd.func28, Tryd.ntmps28
  go_wp2_with fail
  refine (HM.out _ _).mono ?_
  rintro e w2 ⟨v2, rfl, hv, hb⟩
  have hlt := HR.out.lt
  have HV := hid (fun x0 x1 x2 x3 x4 x5 => new_put (x0 := x0) (x1 := x1) (x2 := x2) (x3 := x3) (x4 := x4) (x5 := x5) hv hlt)
  obtain ⟨N2, nn2, nc2, A2, n2, c2, rfl, -, -, -, -, -, -⟩ := hv.shape
  obtain ⟨⟨r0, r1, r2, r3, r4, r5⟩, ⟨f0, f1, f2, f3, f4, f5⟩, hzr⟩ := boxF6 (HR.out.up hb)
  have E := hid ((Ext.alloc w _).trans hb)
  clear hb hv hlt
  go_wp2_with fail
  refine bodyPost_ret (v := kv _ _ N2 nn2 nc2 _ _ A2 n2 c2) (by simp [results, Tryd.results28, go_sem, r0, r1, r2, r3, r4, r5, hzr]; exact ⟨rfl, rfl, rfl, rfl⟩) rfl ?_
  exact ⟨_, rfl, HV.out _ _ _ _ _ _, put6_ext E.out (by omega)⟩

set_option maxHeartbeats 8000000 in
theorem num_t {Z : Int} {k : Nat} {v : Value} {w : World} (h : Worth w v Z k) (hk : k ≤ 1000000) : Calls Tryd.prog 27 #[v] w (GivesT1 w (M.knumT Z)) := by
 obtain ⟨g, N, nn, nc, ls, rfl, hn, hl, rfl⟩ := h
 obtain ⟨q, hq⟩ : ∃ q, M.isZ g ls = q := ⟨_, rfl⟩
 have HI := hid (show ∀ w', Ext w w' → Calls Tryd.prog 55 #[.agg #[.bool g, .slice N nn nc]] w' (GivesB w' q) from fun w' e => wIs_any (Num.keep hn e e.size) hq)
 have HB := hid (show Box ((w.alloc (.cells #[.bool g, .slice N nn nc] 24)).alloc (.cells zero6 27)) w.heap.size #[.bool g, .slice N nn nc] 24 from (Box.new w _ _).alloc _)
 have HR := hid (show Box ((w.alloc (.cells #[.bool g, .slice N nn nc] 24)).alloc (.cells zero6 27)) (w.heap.size + 1) zero6 27 from Box.at_ (w := w.alloc (.cells #[.bool g, .slice N nn nc] 24)) _ _ (by simp))
 cases q
 ·have hr := hid (show M.knumT (M.zv g ls) = .mk 1 false [] [] 2 [] by
   rw [M.zv_off hq]
   exact M.knumT0)
  rw [hr.out]
  have HM := hid (fun w' => made_none (op := 1) (g := false) (ls := []) (nm := []) (so := 2) (by simp) (by simp) (LNum.nil w'))
  clear hn hl hq
  go_enter Tryd.func27, Tryd.ntmps27
  go_wp2_with fail
  refine (HI.out _ (alloc_two w _ _)).mono ?_
  rintro e w1 ⟨rfl, hb⟩
  replace HB := hid (HB.out.up hb)
  replace HR := hid (HR.out.up hb)
  have E := hid ((alloc_two w _ _).trans hb)
  clear hb
  have b0 := HB.out.k 0
  have b1 := HB.out.k 1
  have f0 := HB.out.free 0
  have f1 := HB.out.free 1
  have hzb := HB.out.lt
  go_wp2_with fail
  refine (HM.out _).mono ?_
  rintro e w2 ⟨v2, rfl, hv, hb⟩
  replace HR := hid (show Box ((w1.setCell ⟨w.heap.size, 0, none⟩ (.bool false)).setCell ⟨w.heap.size, 1, none⟩ (.slice none 0 0)) (w.heap.size + 1) zero6 27 from (HR.out.far (show w.heap.size + 1 ≠ w.heap.size by omega) _).far (show w.heap.size + 1 ≠ w.heap.size by omega) _)
  have hlt := HR.out.lt
  have HV := hid (fun x0 x1 x2 x3 x4 x5 => new_put (x0 := x0) (x1 := x1) (x2 := x2) (x3 := x3) (x4 := x4) (x5 := x5) hv hlt)
  obtain ⟨N2, nn2, nc2, A2, n2, c2, rfl, -, -, -, -, -, -⟩ := hv.shape
  obtain ⟨⟨r0, r1, r2, r3, r4, r5⟩, ⟨g0, g1, g2, g3, g4, g5⟩, hzr⟩ := boxF6 (HR.out.up hb)
  replace E := hid (((E.out.set' (show w.heap.size ≤ w.heap.size by omega) _).set' (show w.heap.size ≤ w.heap.size by omega) _).trans hb)
  clear hb hv hlt b0 b1 f0 f1 hzb
  go_wp2_with fail
  refine bodyPost_ret (v := kv _ _ N2 nn2 nc2 _ _ A2 n2 c2) (by simp [results, Tryd.results27, go_sem, r0, r1, r2, r3, r4, r5, hzr]; exact ⟨rfl, rfl, rfl, rfl⟩) rfl ?_
  exact ⟨_, rfl, HV.out _ _ _ _ _ _, put6_ext E.out (by omega)⟩
 ·have hr := hid (show M.knumT (M.zv g ls) = .mk 1 g ls [] 2 [] by
   show M.Tm.mk 1 (decide (M.zv g ls < 0)) (M.limbs (M.zv g ls).natAbs) [] 2 [] = _
   rw [M.zv_lt hq, M.limbs_zv hq])
  rw [hr.out]
  have HM := hid (show ∀ w', Ext w w' → Calls Tryd.prog 56 #[kv 1 g N nn nc [] 2 none 0 0, .slice none 0 0] w' (GivesTN w' (.mk 1 g ls [] 2 [])) from fun w' e => made_none (by simp) (by omega) (Num.keep hn e e.size))
  clear hn hl hq
  go_enter Tryd.func27, Tryd.ntmps27
  go_wp2_with fail
  refine (HI.out _ (alloc_two w _ _)).mono ?_
  rintro e w1 ⟨rfl, hb⟩
  replace HB := hid (HB.out.up hb)
  replace HR := hid (HR.out.up hb)
  have E := hid ((alloc_two w _ _).trans hb)
  clear hb
  have b0 := HB.out.k 0
  have b1 := HB.out.k 1
  go_wp2_with fail
  refine (HM.out _ E.out).mono ?_
  rintro e w2 ⟨v2, rfl, hv, hb⟩
  have hlt := HR.out.lt
  have HV := hid (fun x0 x1 x2 x3 x4 x5 => new_put (x0 := x0) (x1 := x1) (x2 := x2) (x3 := x3) (x4 := x4) (x5 := x5) hv hlt)
  obtain ⟨N2, nn2, nc2, A2, n2, c2, rfl, -, -, -, -, -, -⟩ := hv.shape
  obtain ⟨⟨r0, r1, r2, r3, r4, r5⟩, ⟨g0, g1, g2, g3, g4, g5⟩, hzr⟩ := boxF6 (HR.out.up hb)
  replace E := hid (E.out.trans hb)
  clear hb hv hlt b0 b1
  go_wp2_with fail
  refine bodyPost_ret (v := kv _ _ N2 nn2 nc2 _ _ A2 n2 c2) (by simp [results, Tryd.results27, go_sem, r0, r1, r2, r3, r4, r5, hzr]; exact ⟨rfl, rfl, rfl, rfl⟩) rfl ?_
  exact ⟨_, rfl, HV.out _ _ _ _ _ _, put6_ext E.out (by omega)⟩
set_option maxHeartbeats 16000000 in
set_option maxRecDepth 100000 in
theorem make_tn {op : Int} {l : List M.Tm} {v : Value} {w : World} (h : Tms w l v) (hf : M.kfews l = true) (htab : Tab w) : Calls Tryd.prog 20 #[.int .i64 op, v] w (GivesTmN w (M.kmake op l)) := by
 obtain ⟨A, c, rfl⟩ := h.shape
 obtain ⟨hl1, hl2, hl3⟩ := h.le
 have HC := hid (show ∀ a b c1 d e1 w', Calls Tryd.prog 43 #[rv a b c1 d e1, .slice A l.length c] w' (GivesB w' (decide (a ≤ (l.length : Int)) && decide ((l.length : Int) ≤ b))) from fun a b c1 d e1 w' => counts_n a b c1 d e1 A l.length c w')
 have HS := hid (show 0 < l.length → ∀ a b c1 d e1 w', Ext w w' → Calls Tryd.prog 45 #[rv a b c1 d e1, .slice A l.length c] w' (GivesB w' (decide ((M.kat l 0).sort = M.meantM c1 l) && l.tail.all fun t => decide (t.sort = M.meantM d l))) from fun hp a b c1 d e1 w' e => sorted_n a b c1 d e1 (h.up e) hp)
 have HO := hid (show 0 < l.length → ∀ a b c1 d e1 w', Ext w w' → Calls Tryd.prog 48 #[rv a b c1 d e1, .slice A l.length c] w' (GivesN w' (M.meantM e1 l)) from fun hp a b c1 d e1 w' e => own_n a b c1 d e1 (h.up e) hp)
 have HL := hid (show 5 ≤ op ∧ op ≤ 22 → M.kargs op l.length = true → ∀ w', Ext w w' → Calls Tryd.prog 46 #[.int .i64 op, .slice A l.length c] w' (GivesN w' (M.klin op l)) from fun h1 h2 w' e => linear_n h1 (h.up e) h2)
 have HA := hid (show ∀ w', Ext w w' → Calls Tryd.prog 44 #[.slice A l.length c] w' (GivesB w' (M.kIss l)) from fun w' e => all_t (h.up e) hf (htab.up e))
 have HD := hid (show ∀ op' so w', Ext w w' → Calls Tryd.prog 47 #[kv op' false none 0 0 [] so none 0 0, .slice A l.length c] w' (GivesTmN w' (M.kbound (.mk op' false [] [] so l))) from fun op' so w' e => bounded_n hf (by simp) (by simp) (LNum.nil _) (h.up e))
 have HU := hid (fun w' => ruled_n op w')
 have HT := hid htab
 obtain ⟨n, hn'⟩ : ∃ n, l.length = n := ⟨_, rfl⟩
 obtain ⟨R, hR⟩ : ∃ R, M.kmake op l = R := ⟨_, rfl⟩
 have hR2 : R = (if op < 5 ∨ 22 < op then (M.K0, 10) else if M.kargs op n = false then (M.K0, 18) else if M.kIss l = false then (M.K0, 10) else if M.kcheck op l ≠ 0 then (M.K0, M.kcheck op l) else (.mk op false [] [] (M.kres op l) l, 0)) := by rw [← hR, ← hn']; rfl
 rw [hR]
 rw [hn'] at HC HS HO HL HA HD hl2 ⊢
 have HR := hid (Box.new w zero6 27)
 have E := hid (Ext.alloc w (.cells zero6 27))
 clear h hf htab hl1 hR
 by_cases hop : 5 ≤ op ∧ op ≤ 22
 case neg =>
  rw [decide_eq_false hop] at HU
  have HRR := hid (show R = (M.K0, 10) by rw [hR2, if_pos (by omega)])
  clear hop hR2 hn'
  go_enter Tryd.func20, Tryd.ntmps20
  go_wp2_with fail
  refine (HU.out _).mono ?_
  rintro e w1 ⟨rfl, hb⟩
  replace E := hid (E.out.trans hb)
  replace HR := hid (HR.out.up hb)
  clear hb
  obtain ⟨⟨r0, r1, r2, r3, r4, r5⟩, ⟨f0, f1, f2, f3, f4, f5⟩, hzr⟩ := boxF6 HR.out
  go_wp2_with fail
  refine bodyPost_ret (v := .tuple #[kv 0 false none 0 0 [] 0 none 0 0, .int .i64 10]) (by simp [results, Tryd.results20, go_sem, r0, r1, r2, r3, r4, r5, hzr]) rfl ?_
  rw [HRR.out]
  exact ⟨_, rfl, IsTm.zero _, put6_ext E.out (by omega)⟩
 case pos =>
 rw [decide_eq_true hop] at HU
 rw [if_neg (by omega)] at hR2
 obtain ⟨j, hj⟩ : ∃ j : Nat, op = (j : Int) := ⟨op.toNat, by omega⟩
 obtain ⟨r0, hr0⟩ : ∃ r, M.rl op 0 = r := ⟨_, rfl⟩
 obtain ⟨r1, hr1⟩ : ∃ r, M.rl op 1 = r := ⟨_, rfl⟩
 obtain ⟨r2, hr2⟩ : ∃ r, M.rl op 2 = r := ⟨_, rfl⟩
 obtain ⟨r3, hr3⟩ : ∃ r, M.rl op 3 = r := ⟨_, rfl⟩
 obtain ⟨r4, hr4⟩ : ∃ r, M.rl op 4 = r := ⟨_, rfl⟩
 have RT := hid (show ∀ w', Ext w w' → w'.cell? ⟨0, j * 5, none⟩ = some (.int .i64 r0) ∧ w'.cell? ⟨0, j * 5 + 1, none⟩ = some (.int .i64 r1) ∧ w'.cell? ⟨0, j * 5 + 2, none⟩ = some (.int .i64 r2) ∧ w'.cell? ⟨0, j * 5 + 3, none⟩ = some (.int .i64 r3) ∧ w'.cell? ⟨0, j * 5 + 4, none⟩ = some (.int .i64 r4) from fun w' e => by
  rw [← hr0, ← hr1, ← hr2, ← hr3, ← hr4]
  exact (HT.out.up e).five hop (by omega))
 obtain ⟨qa, hqa⟩ : ∃ q, M.kargs op n = q := ⟨_, rfl⟩
 have HCC := hid (show ∀ w', Calls Tryd.prog 43 #[rv r0 r1 r2 r3 r4, .slice A n c] w' (GivesB w' qa) from fun w' => by
  have h1 := HC.out r0 r1 r2 r3 r4 w'
  have h2 := M.counts_eq hop (show n ≤ 9223372036854775807 by omega)
  rw [hr0, hr1, hqa] at h2
  rwa [h2] at h1)
 rw [hqa] at hR2
 have hjlt : (j : Int) < 23 := by omega
 have hjlt2 : j < 23 := by omega
 have hj5 : 5 ≤ j := by omega
 obtain ⟨qi, hqi⟩ : ∃ q, M.kIss l = q := ⟨_, rfl⟩
 rw [hqi] at HA hR2
 cases qa
 case false =>
  have HRR := hid (show R = (M.K0, 18) by rw [hR2, if_pos rfl])
  subst hj
  clear hR2 hop HC HS HO HL HT HD HA hqa hqi hr0 hr1 hr2 hr3 hr4 hn' 
  go_enter Tryd.func20, Tryd.ntmps20
  go_wp2_with fail
  refine (HU.out _).mono ?_
  rintro e w1 ⟨rfl, hb⟩
  replace E := hid (E.out.trans hb)
  replace HR := hid (HR.out.up hb)
  clear hb
  obtain ⟨q0, q1, q2, q3, q4⟩ := RT.out _ E.out
  go_wp2_with fail
  refine (HCC.out _).mono ?_
  rintro e w1 ⟨rfl, hb⟩
  replace E := hid (E.out.trans hb)
  replace HR := hid (HR.out.up hb)
  clear hb
  obtain ⟨⟨r0, r1, r2, r3, r4, r5⟩, ⟨f0, f1, f2, f3, f4, f5⟩, hzr⟩ := boxF6 HR.out
  go_wp2_with fail
  refine bodyPost_ret (v := .tuple #[kv 0 false none 0 0 [] 0 none 0 0, .int .i64 18]) (by simp [results, Tryd.results20, go_sem, r0, r1, r2, r3, r4, r5, hzr]) rfl ?_
  rw [HRR.out]
  exact ⟨_, rfl, IsTm.zero _, put6_ext E.out (by omega)⟩
 case true =>
 rw [if_neg (by decide)] at hR2
 obtain ⟨hnp, -, -⟩ := kargs_len hqa
 cases qi
 case false =>
  have HRR := hid (show R = (M.K0, 10) by rw [hR2, if_pos rfl])
  subst hj
  clear hR2 hop HC HS HO HL HT HD hqa hqi hr0 hr1 hr2 hr3 hr4 hn' 
  go_enter Tryd.func20, Tryd.ntmps20
  go_wp2_with fail
  refine (HU.out _).mono ?_
  rintro e w1 ⟨rfl, hb⟩
  replace E := hid (E.out.trans hb)
  replace HR := hid (HR.out.up hb)
  clear hb
  obtain ⟨q0, q1, q2, q3, q4⟩ := RT.out _ E.out
  go_wp2_with fail
  refine (HCC.out _).mono ?_
  rintro e w1 ⟨rfl, hb⟩
  replace E := hid (E.out.trans hb)
  replace HR := hid (HR.out.up hb)
  clear hb
  go_wp2_with fail
  refine (HA.out _ E.out).mono ?_
  rintro e w1 ⟨rfl, hb⟩
  replace E := hid (E.out.trans hb)
  replace HR := hid (HR.out.up hb)
  clear hb
  obtain ⟨⟨r0, r1, r2, r3, r4, r5⟩, ⟨f0, f1, f2, f3, f4, f5⟩, hzr⟩ := boxF6 HR.out
  go_wp2_with fail
  refine bodyPost_ret (v := .tuple #[kv 0 false none 0 0 [] 0 none 0 0, .int .i64 10]) (by simp [results, Tryd.results20, go_sem, r0, r1, r2, r3, r4, r5, hzr]) rfl ?_
  rw [HRR.out]
  exact ⟨_, rfl, IsTm.zero _, put6_ext E.out (by omega)⟩
 case true =>
 rw [if_neg (by decide)] at hR2
 obtain ⟨qs, hqs⟩ : ∃ q, M.ksorted op l = q := ⟨_, rfl⟩
 have HSS := hid (show ∀ w', Ext w w' → Calls Tryd.prog 45 #[rv r0 r1 r2 r3 r4, .slice A n c] w' (GivesB w' qs) from fun w' e => by
  have h1 := HS.out (by omega) r0 r1 r2 r3 r4 w' e
  have h2 := M.sorted_eq hop (l := l) (by rw [hn']; exact hqa)
  unfold M.rsorted at h2
  rw [hr2, hr3, hqs] at h2
  rwa [h2] at h1)
 cases qs
 case false =>
  have HRR := hid (show R = (M.K0, 17) by
   have h17 : M.kcheck op l = 17 := by unfold M.kcheck; rw [if_pos hqs]
   rw [hR2, h17, if_pos (by decide)])
  subst hj
  clear hR2 hop HC HS HO HL HT HD hqa hqi hqs hr0 hr1 hr2 hr3 hr4 hn' 
  go_enter Tryd.func20, Tryd.ntmps20
  go_wp2_with fail
  refine (HU.out _).mono ?_
  rintro e w1 ⟨rfl, hb⟩
  replace E := hid (E.out.trans hb)
  replace HR := hid (HR.out.up hb)
  clear hb
  obtain ⟨q0, q1, q2, q3, q4⟩ := RT.out _ E.out
  go_wp2_with fail
  refine (HCC.out _).mono ?_
  rintro e w1 ⟨rfl, hb⟩
  replace E := hid (E.out.trans hb)
  replace HR := hid (HR.out.up hb)
  clear hb
  go_wp2_with fail
  refine (HA.out _ E.out).mono ?_
  rintro e w1 ⟨rfl, hb⟩
  replace E := hid (E.out.trans hb)
  replace HR := hid (HR.out.up hb)
  clear hb
  obtain ⟨q0, q1, q2, q3, q4⟩ := RT.out _ E.out
  go_wp2_with fail
  refine (HSS.out _ E.out).mono ?_
  rintro e w1 ⟨rfl, hb⟩
  replace E := hid (E.out.trans hb)
  replace HR := hid (HR.out.up hb)
  clear hb
  obtain ⟨⟨r0, r1, r2, r3, r4, r5⟩, ⟨f0, f1, f2, f3, f4, f5⟩, hzr⟩ := boxF6 HR.out
  go_wp2_with fail
  refine bodyPost_ret (v := .tuple #[kv 0 false none 0 0 [] 0 none 0 0, .int .i64 17]) (by simp [results, Tryd.results20, go_sem, r0, r1, r2, r3, r4, r5, hzr]) rfl ?_
  rw [HRR.out]
  exact ⟨_, rfl, IsTm.zero _, put6_ext E.out (by omega)⟩
 case true =>
 obtain ⟨lin, hlin0⟩ : ∃ q, M.klin op l = q := ⟨_, rfl⟩
 have HLL := hid (show ∀ w', Ext w w' → Calls Tryd.prog 46 #[.int .i64 op, .slice A n c] w' (GivesN w' lin) from fun w' e => hlin0 ▸ HL.out hop hqa w' e)
 have hchk : M.kcheck op l = if lin ≠ 0 then lin else if 400 < 1 + M.kcnts l then 11 else 0 := by unfold M.kcheck; rw [if_neg (by rw [hqs]; decide), hlin0]
 by_cases hlz : lin = 0
 case neg =>
  have HRR := hid (show R = (M.K0, lin) by rw [hR2, hchk, if_pos hlz, if_pos hlz])
  have hlin : (lin == 0) = false := by simpa using hlz
  subst hj
  clear hR2 hop HC HS HO HL HT HD hqa hqi hqs hr0 hr1 hr2 hr3 hr4 hn' hlin0 hlz hchk
  go_enter Tryd.func20, Tryd.ntmps20
  go_wp2_with fail
  refine (HU.out _).mono ?_
  rintro e w1 ⟨rfl, hb⟩
  replace E := hid (E.out.trans hb)
  replace HR := hid (HR.out.up hb)
  clear hb
  obtain ⟨q0, q1, q2, q3, q4⟩ := RT.out _ E.out
  go_wp2_with fail
  refine (HCC.out _).mono ?_
  rintro e w1 ⟨rfl, hb⟩
  replace E := hid (E.out.trans hb)
  replace HR := hid (HR.out.up hb)
  clear hb
  go_wp2_with fail
  refine (HA.out _ E.out).mono ?_
  rintro e w1 ⟨rfl, hb⟩
  replace E := hid (E.out.trans hb)
  replace HR := hid (HR.out.up hb)
  clear hb
  obtain ⟨q0, q1, q2, q3, q4⟩ := RT.out _ E.out
  go_wp2_with fail
  refine (HSS.out _ E.out).mono ?_
  rintro e w1 ⟨rfl, hb⟩
  replace E := hid (E.out.trans hb)
  replace HR := hid (HR.out.up hb)
  clear hb
  go_wp2_with fail
  refine (HLL.out _ E.out).mono ?_
  rintro e w1 ⟨rfl, hb⟩
  replace E := hid (E.out.trans hb)
  replace HR := hid (HR.out.up hb)
  clear hb
  obtain ⟨⟨r0, r1, r2, r3, r4, r5⟩, ⟨f0, f1, f2, f3, f4, f5⟩, hzr⟩ := boxF6 HR.out
  go_wp2_with fail
  refine bodyPost_ret (v := .tuple #[kv 0 false none 0 0 [] 0 none 0 0, .int .i64 lin]) (by simp [results, Tryd.results20, go_sem, r0, r1, r2, r3, r4, r5, hzr]) rfl ?_
  rw [HRR.out]
  exact ⟨_, rfl, IsTm.zero _, put6_ext E.out (by omega)⟩
 case pos =>
 subst hlz
 obtain ⟨own, hown⟩ : ∃ q, M.kres op l = q := ⟨_, rfl⟩
 have HOO := hid (show ∀ w', Ext w w' → Calls Tryd.prog 48 #[rv r0 r1 r2 r3 r4, .slice A n c] w' (GivesN w' own) from fun w' e => by
  have h1 := HO.out (by omega) r0 r1 r2 r3 r4 w' e
  have h2 := M.own_eq hop (l := l) (by rw [hn']; exact hqa) hqs
  rw [hr4, hown] at h2
  rwa [h2] at h1)
 have HRR := hid (show M.kbound (.mk op false [] [] own l) = R by
  rw [if_neg (by decide)] at hchk
  rw [hR2, hchk, hown]
  unfold M.kbound
  show (if 400 < 1 + M.kcnts l then _ else _) = _
  by_cases h4 : 400 < 1 + M.kcnts l
  ·rw [if_pos h4, if_pos h4, if_pos (by decide)]
  ·rw [if_neg h4, if_neg h4, if_neg (by decide)])
 replace HD := hid (show ∀ w', Ext w w' → Calls Tryd.prog 47 #[kv op false none 0 0 [] own none 0 0, .slice A n c] w' (GivesTmN w' R) from fun w' e => HRR.out ▸ HD.out op own w' e)
 subst hj
 clear hR2 hop HC HS HO HL HT hqa hqi hqs hr0 hr1 hr2 hr3 hr4 hn' hlin0 hchk hown HRR
 go_enter Tryd.func20, Tryd.ntmps20
 go_wp2_with fail
 refine (HU.out _).mono ?_
 rintro e w1 ⟨rfl, hb⟩
 replace E := hid (E.out.trans hb)
 replace HR := hid (HR.out.up hb)
 clear hb
 obtain ⟨q0, q1, q2, q3, q4⟩ := RT.out _ E.out
 go_wp2_with fail
 refine (HCC.out _).mono ?_
 rintro e w1 ⟨rfl, hb⟩
 replace E := hid (E.out.trans hb)
 replace HR := hid (HR.out.up hb)
 clear hb
 go_wp2_with fail
 refine (HA.out _ E.out).mono ?_
 rintro e w1 ⟨rfl, hb⟩
 replace E := hid (E.out.trans hb)
 replace HR := hid (HR.out.up hb)
 clear hb
 obtain ⟨q0, q1, q2, q3, q4⟩ := RT.out _ E.out
 go_wp2_with fail
 refine (HSS.out _ E.out).mono ?_
 rintro e w1 ⟨rfl, hb⟩
 replace E := hid (E.out.trans hb)
 replace HR := hid (HR.out.up hb)
 clear hb
 go_wp2_with fail
 refine (HLL.out _ E.out).mono ?_
 rintro e w1 ⟨rfl, hb⟩
 replace E := hid (E.out.trans hb)
 replace HR := hid (HR.out.up hb)
 clear hb
 obtain ⟨q0, q1, q2, q3, q4⟩ := RT.out _ E.out
 go_wp2_with fail
 refine (HOO.out _ E.out).mono ?_
 rintro e w1 ⟨rfl, hb⟩
 replace E := hid (E.out.trans hb)
 replace HR := hid (HR.out.up hb)
 clear hb
 go_wp2_with fail
 refine (HD.out _ E.out).mono ?_
 rintro e w2 ⟨v2, rfl, hv, hb⟩
 obtain ⟨N2, nn2, nc2, A2, n2, c2, rfl, -, -, -, -, -, -⟩ := hv.shape
 have hlt := HR.out.lt
 have hsz := E.out.size
 have HV := hid (fun x0 x1 x2 x3 x4 x5 => new_putG (x0 := x0) (x1 := x1) (x2 := x2) (x3 := x3) (x4 := x4) (x5 := x5) hv hlt (B := w.heap.size) hsz)
 replace HR := hid (HR.out.up hb)
 replace E := hid (E.out.trans hb)
 obtain ⟨⟨r0, r1, r2, r3, r4, r5⟩, ⟨f0, f1, f2, f3, f4, f5⟩, hzr⟩ := boxF6 HR.out
 obtain ⟨Rt, Rc⟩ := R
 clear hb hv hlt hsz
 go_wp2_with fail
 refine bodyPost_ret (v := .tuple #[kv Rt.op Rt.g N2 nn2 nc2 Rt.name Rt.sort A2 n2 c2, .int .i64 Rc]) (by simp [results, Tryd.results20, go_sem, r0, r1, r2, r3, r4, r5, hzr]) rfl ?_
 exact ⟨_, rfl, HV.out _ _ _ _ _ _, put6_ext E.out (by omega)⟩
set_option maxHeartbeats 16000000 in
set_option maxRecDepth 100000 in
theorem app_tn {s : M.Sg} {l : List M.Tm} {v v' : Value} {w : World} (hs : IsSg w s v') (hsn : s.name.length ≤ 1000000000000) (h : Tms w l v) (hf : M.kfews l = true) (htab : Tab w) : Calls Tryd.prog 25 #[v', v] w (GivesTmN w (M.kapp s l)) := by
 obtain ⟨A, c, rfl⟩ := h.shape
 obtain ⟨hl1, hl2, hl3⟩ := h.le
 obtain ⟨nm, ag, rt⟩ := s
 replace hsn : nm.length ≤ 1000000000000 := hsn
 have hs2 := hs
 obtain ⟨SA, sc, rfl, hi⟩ := hs
 replace hi : Ints w ag (.slice SA ag.length sc) := hi
 replace hs2 : IsSg w ⟨nm, ag, rt⟩ (sgv nm SA ag.length sc rt) := hs2
 show Calls Tryd.prog 25 #[sgv nm SA ag.length sc rt, .slice A l.length c] w _
 obtain ⟨hm1, hm2, hm3⟩ := hi.le
 have HS := hid (show ∀ w', Ext w w' → Calls Tryd.prog 29 #[sgv nm SA ag.length sc rt] w' (GivesB w' (M.ksig ⟨nm, ag, rt⟩)) from fun w' e => isSig_t (hs2.up e) hsn)
 have HA := hid (show ∀ w', Ext w w' → Calls Tryd.prog 44 #[.slice A l.length c] w' (GivesB w' (M.kIss l)) from fun w' e => all_t (h.up e) hf (htab.up e))
 have HO := hid (show l.length ≤ 1000000 → ∀ w', Ext w w' → Calls Tryd.prog 53 #[.slice A l.length c] w' (GivesIs w' (l.map M.Tm.sort)) from fun hl w' e => sorts_n (h.up e) hl)
 have HE := hid (show ∀ u w', Ext w w' → Ints w' (l.map M.Tm.sort) u → Calls Tryd.prog 52 #[u, .slice SA ag.length sc] w' (GivesB w' (decide (l.map M.Tm.sort = ag))) from fun u w' e hu => equalI_n hu (hi.up e))
 have HD := hid (show ∀ w', Ext w w' → Calls Tryd.prog 47 #[kv 4 false none 0 0 nm rt none 0 0, .slice A l.length c] w' (GivesTmN w' (M.kbound (.mk 4 false [] nm rt l))) from fun w' e => bounded_n hf hsn (by simp) (LNum.nil _) (h.up e))
 obtain ⟨n, hn'⟩ : ∃ n, l.length = n := ⟨_, rfl⟩
 obtain ⟨m, hm'⟩ : ∃ n, ag.length = n := ⟨_, rfl⟩
 obtain ⟨R, hR⟩ : ∃ R, M.kapp ⟨nm, ag, rt⟩ l = R := ⟨_, rfl⟩
 obtain ⟨qs, hqs⟩ : ∃ q, M.ksig ⟨nm, ag, rt⟩ = q := ⟨_, rfl⟩
 obtain ⟨qi, hqi⟩ : ∃ q, M.kIss l = q := ⟨_, rfl⟩
 obtain ⟨qe, hqe⟩ : ∃ q, decide (l.map M.Tm.sort = ag) = q := ⟨_, rfl⟩
 have hR2 : R = (if qs = false then (M.K0, 10) else if n ≠ m then (M.K0, 18) else if qi = false then (M.K0, 10) else if qe = false then (M.K0, 17) else M.kbound (.mk 4 false [] nm rt l)) := by
  rw [← hR, ← hn', ← hm', ← hqs, ← hqi, ← hqe]
  unfold M.kapp M.kbound
  show (if _ then _ else if l.length ≠ ag.length then _ else if _ then _ else if l.map M.Tm.sort ≠ ag then _ else if 400 < 1 + M.kcnts l then _ else _) = _
  congr 4
  simp
 have hml : (l.map M.Tm.sort).length = n := by rw [List.length_map, hn']
 rw [hR]
 rw [hn'] at HA HO HD hl2 ⊢
 rw [hm'] at HS HE hm2 ⊢
 rw [hqs] at HS
 rw [hqi] at HA
 rw [hqe] at HE
 have HB := hid (show Box ((w.alloc (.cells #[str nm, .slice SA m sc, .int .i64 rt] 53)).alloc (.cells zero6 27)) w.heap.size #[str nm, .slice SA m sc, .int .i64 rt] 53 from (Box.new w _ _).alloc _)
 have HR := hid (show Box ((w.alloc (.cells #[str nm, .slice SA m sc, .int .i64 rt] 53)).alloc (.cells zero6 27)) (w.heap.size + 1) zero6 27 from Box.at_ (w := w.alloc (.cells #[str nm, .slice SA m sc, .int .i64 rt] 53)) _ _ (by simp))
 have E := hid (alloc_two w (.cells #[str nm, .slice SA m sc, .int .i64 rt] 53) (.cells zero6 27))
 have hqn : qs = true → m ≤ 3 := fun h => by
  subst h
  unfold M.ksig at hqs
  simp only [Bool.and_eq_true, decide_eq_true_eq] at hqs
  rw [← hm']; exact hqs.2.2.1
 clear h hf htab hl1 hm1 hR hi hs2 hsn hqs hqi hqe hn' hm'
 cases qs
 case false =>
  have HRR := hid (show R = (M.K0, 10) by rw [hR2, if_pos rfl])
  clear hR2 HA HO HE HD
  go_enter Tryd.func25, Tryd.ntmps25
  go_wp2_with fail
  refine (HS.out _ E.out).mono ?_
  rintro e w1 ⟨rfl, hb⟩
  replace E := hid (E.out.trans hb)
  replace HR := hid (HR.out.up hb)
  replace HB := hid (HB.out.up hb)
  clear hb
  obtain ⟨⟨r0, r1, r2, r3, r4, r5⟩, ⟨f0, f1, f2, f3, f4, f5⟩, hzr⟩ := boxF6 HR.out
  go_wp2_with fail
  refine bodyPost_ret (v := .tuple #[kv 0 false none 0 0 [] 0 none 0 0, .int .i64 10]) (by simp [results, Tryd.results25, go_sem, r0, r1, r2, r3, r4, r5, hzr]) rfl ?_
  rw [HRR.out]
  exact ⟨_, rfl, IsTm.zero _, put6_ext E.out (by omega)⟩
 case true =>
 rw [if_neg (by decide)] at hR2
 have hm3' := hqn rfl
 clear hqn
 by_cases hnm : n = m
 case neg =>
  have HRR := hid (show R = (M.K0, 18) by rw [hR2, if_pos hnm])
  have hq : ((n : Int) == (m : Int)) = false := by simp; omega
  clear hR2 HA HO HE HD hnm
  go_enter Tryd.func25, Tryd.ntmps25
  go_wp2_with fail
  refine (HS.out _ E.out).mono ?_
  rintro e w1 ⟨rfl, hb⟩
  replace E := hid (E.out.trans hb)
  replace HR := hid (HR.out.up hb)
  replace HB := hid (HB.out.up hb)
  clear hb
  obtain ⟨a0, a1, a2⟩ := box3b HB.out
  obtain ⟨⟨r0, r1, r2, r3, r4, r5⟩, ⟨f0, f1, f2, f3, f4, f5⟩, hzr⟩ := boxF6 HR.out
  go_wp2_with fail
  refine bodyPost_ret (v := .tuple #[kv 0 false none 0 0 [] 0 none 0 0, .int .i64 18]) (by simp [results, Tryd.results25, go_sem, r0, r1, r2, r3, r4, r5, hzr]) rfl ?_
  rw [HRR.out]
  exact ⟨_, rfl, IsTm.zero _, put6_ext E.out (by omega)⟩
 case pos =>
 subst hnm
 rw [if_neg (by simp)] at hR2
 replace HO := hid (HO.out (by omega))
 cases qi
 case false =>
  have HRR := hid (show R = (M.K0, 10) by rw [hR2, if_pos rfl])
  clear hR2 HO HE HD
  go_enter Tryd.func25, Tryd.ntmps25
  go_wp2_with fail
  refine (HS.out _ E.out).mono ?_
  rintro e w1 ⟨rfl, hb⟩
  replace E := hid (E.out.trans hb)
  replace HR := hid (HR.out.up hb)
  replace HB := hid (HB.out.up hb)
  clear hb
  obtain ⟨a0, a1, a2⟩ := box3b HB.out
  go_wp2_with fail
  refine (HA.out _ E.out).mono ?_
  rintro e w1 ⟨rfl, hb⟩
  replace E := hid (E.out.trans hb)
  replace HR := hid (HR.out.up hb)
  replace HB := hid (HB.out.up hb)
  clear hb
  obtain ⟨⟨r0, r1, r2, r3, r4, r5⟩, ⟨f0, f1, f2, f3, f4, f5⟩, hzr⟩ := boxF6 HR.out
  go_wp2_with fail
  refine bodyPost_ret (v := .tuple #[kv 0 false none 0 0 [] 0 none 0 0, .int .i64 10]) (by simp [results, Tryd.results25, go_sem, r0, r1, r2, r3, r4, r5, hzr]) rfl ?_
  rw [HRR.out]
  exact ⟨_, rfl, IsTm.zero _, put6_ext E.out (by omega)⟩
 case true =>
 rw [if_neg (by decide)] at hR2
 cases qe
 case false =>
  have HRR := hid (show R = (M.K0, 17) by rw [hR2, if_pos rfl])
  clear hR2 HD
  go_enter Tryd.func25, Tryd.ntmps25
  go_wp2_with fail
  refine (HS.out _ E.out).mono ?_
  rintro e w1 ⟨rfl, hb⟩
  replace E := hid (E.out.trans hb)
  replace HR := hid (HR.out.up hb)
  replace HB := hid (HB.out.up hb)
  clear hb
  obtain ⟨a0, a1, a2⟩ := box3b HB.out
  go_wp2_with fail
  refine (HA.out _ E.out).mono ?_
  rintro e w1 ⟨rfl, hb⟩
  replace E := hid (E.out.trans hb)
  replace HR := hid (HR.out.up hb)
  replace HB := hid (HB.out.up hb)
  clear hb
  clear a0 a1 a2
  go_wp2_with fail
  refine wp_region_D [(0, 0), (2, 0), (3, 0), (1, 1), (4, 1), (5, 0), (6, 0)] fun wd hb => ?_
  replace E := hid (E.out.trans hb)
  replace HR := hid (HR.out.up hb)
  replace HB := hid (HB.out.up hb)
  clear hb
  refine WE.p 25 (.slice A n c) ?_
  simp only [Act.put, pA, pB, pC]
  refine WE.p 27 (.pointer (some ⟨w.heap.size, 1, none⟩)) ?_
  simp only [Act.put, pA, pB, pC]
  refine WE.q 28 (.slice SA n sc) rfl (fun w' hk => by have ce := (HB.out.up hk).k 1; go_simp) ?_
  simp only [Act.put, pA, pB, pC]
  refine WE.c 26 ((HO.out _ E.out).mono ?_)
  rintro e w5 ⟨v5, rfl, hi5, hb⟩
  refine ⟨_, rfl, hb, ?_⟩
  replace E := hid (E.out.trans hb)
  replace HR := hid (HR.out.up hb)
  replace HB := hid (HB.out.up hb)
  obtain ⟨IA, ic, rfl, -, -⟩ := kshape hi5
  have HI5 := hid hi5.ints
  rw [hml] at HI5 ⊢
  clear hb hi5
  simp only [Act.put, pA, pB, pC]
  refine WE.c 29 ((HE.out _ _ E.out HI5.out).mono ?_)
  rintro e w6 ⟨rfl, hb⟩
  refine ⟨_, rfl, hb, ?_⟩
  replace E := hid (E.out.trans hb)
  replace HR := hid (HR.out.up hb)
  replace HB := hid (HB.out.up hb)
  clear hb
  simp only [Act.put, pA, pB, pC]
  refine WE.p 30 (.bool true) ?_
  simp only [Act.put, pA, pB, pC]
  refine WE.p 24 (.bool true) ?_
  simp only [Act.put, pA, pB, pC]
  refine WE.done ?_
  obtain ⟨⟨r0, r1, r2, r3, r4, r5⟩, ⟨f0, f1, f2, f3, f4, f5⟩, hzr⟩ := boxF6 HR.out
  go_wp2_with fail
  refine bodyPost_ret (v := .tuple #[kv 0 false none 0 0 [] 0 none 0 0, .int .i64 17]) (by simp [results, Tryd.results25, go_sem, r0, r1, r2, r3, r4, r5, hzr]) rfl ?_
  rw [HRR.out]
  exact ⟨_, rfl, IsTm.zero _, put6_ext E.out (by omega)⟩
 case true =>
 rw [if_neg (by decide)] at hR2
 rw [← hR2] at HD
 clear hR2
 go_enter Tryd.func25, Tryd.ntmps25
 go_wp2_with fail
 refine (HS.out _ E.out).mono ?_
 rintro e w1 ⟨rfl, hb⟩
 replace E := hid (E.out.trans hb)
 replace HR := hid (HR.out.up hb)
 replace HB := hid (HB.out.up hb)
 clear hb
 obtain ⟨a0, a1, a2⟩ := box3b HB.out
 go_wp2_with fail
 refine (HA.out _ E.out).mono ?_
 rintro e w1 ⟨rfl, hb⟩
 replace E := hid (E.out.trans hb)
 replace HR := hid (HR.out.up hb)
 replace HB := hid (HB.out.up hb)
 clear hb
 clear a0 a1 a2
 go_wp2_with fail
 refine wp_region_D [(0, 0), (2, 0), (3, 0), (1, 1), (4, 1), (5, 0), (6, 0)] fun wd hb => ?_
 replace E := hid (E.out.trans hb)
 replace HR := hid (HR.out.up hb)
 replace HB := hid (HB.out.up hb)
 clear hb
 refine WE.p 25 (.slice A n c) ?_
 simp only [Act.put, pA, pB, pC]
 refine WE.p 27 (.pointer (some ⟨w.heap.size, 1, none⟩)) ?_
 simp only [Act.put, pA, pB, pC]
 refine WE.q 28 (.slice SA n sc) rfl (fun w' hk => by have ce := (HB.out.up hk).k 1; go_simp) ?_
 simp only [Act.put, pA, pB, pC]
 refine WE.c 26 ((HO.out _ E.out).mono ?_)
 rintro e w5 ⟨v5, rfl, hi5, hb⟩
 refine ⟨_, rfl, hb, ?_⟩
 replace E := hid (E.out.trans hb)
 replace HR := hid (HR.out.up hb)
 replace HB := hid (HB.out.up hb)
 obtain ⟨IA, ic, rfl, -, -⟩ := kshape hi5
 have HI5 := hid hi5.ints
 rw [hml] at HI5 ⊢
 clear hb hi5
 simp only [Act.put, pA, pB, pC]
 refine WE.c 29 ((HE.out _ _ E.out HI5.out).mono ?_)
 rintro e w6 ⟨rfl, hb⟩
 refine ⟨_, rfl, hb, ?_⟩
 replace E := hid (E.out.trans hb)
 replace HR := hid (HR.out.up hb)
 replace HB := hid (HB.out.up hb)
 clear hb
 simp only [Act.put, pA, pB, pC]
 refine WE.p 30 (.bool false) ?_
 simp only [Act.put, pA, pB, pC]
 refine WE.p 24 (.bool false) ?_
 simp only [Act.put, pA, pB, pC]
 refine WE.done ?_
 obtain ⟨a0, a1, a2⟩ := box3b HB.out
 go_wp2_with fail
 refine (HD.out _ E.out).mono ?_
 rintro e w2 ⟨v2, rfl, hv, hb⟩
 obtain ⟨N2, nn2, nc2, A2, n2, c2, rfl, -, -, -, -, -, -⟩ := hv.shape
 have hlt := HR.out.lt
 have hsz := E.out.size
 have HV := hid (fun x0 x1 x2 x3 x4 x5 => new_putG (x0 := x0) (x1 := x1) (x2 := x2) (x3 := x3) (x4 := x4) (x5 := x5) hv hlt (B := w.heap.size) hsz)
 replace HR := hid (HR.out.up hb)
 replace E := hid (E.out.trans hb)
 obtain ⟨⟨r0, r1, r2, r3, r4, r5⟩, ⟨f0, f1, f2, f3, f4, f5⟩, hzr⟩ := boxF6 HR.out
 obtain ⟨Rt, Rc⟩ := R
 clear hb hv hlt hsz
 go_wp2_with fail
 refine bodyPost_ret (v := .tuple #[kv Rt.op Rt.g N2 nn2 nc2 Rt.name Rt.sort A2 n2 c2, .int .i64 Rc]) (by simp [results, Tryd.results25, go_sem, r0, r1, r2, r3, r4, r5, hzr]) rfl ?_
 exact ⟨_, rfl, HV.out _ _ _ _ _ _, put6_ext E.out (by omega)⟩
theorem make_t {op : Int} {l : List M.Tm} {v : Value} {w : World} (h : Tms w l v) (hf : M.kfews l = true) (htab : Tab w) : Calls Tryd.prog 20 #[.int .i64 op, v] w (GivesTm w (M.kmake op l)) :=
 (make_tn h hf htab).mono fun e w' ⟨u, h1, h2, h3⟩ => ⟨u, h1, h2.sub (gp_sub _ _), h3⟩
theorem app_t {s : M.Sg} {l : List M.Tm} {v v' : Value} {w : World} (hs : IsSg w s v') (hsn : s.name.length ≤ 1000000000000) (h : Tms w l v) (hf : M.kfews l = true) (htab : Tab w) : Calls Tryd.prog 25 #[v', v] w (GivesTm w (M.kapp s l)) :=
 (app_tn hs hsn h hf htab).mono fun e w' ⟨u, h1, h2, h3⟩ => ⟨u, h1, h2.sub (gp_sub _ _), h3⟩
end Go.Proofs.YtaoboilkpgphaaaDoor.Q
