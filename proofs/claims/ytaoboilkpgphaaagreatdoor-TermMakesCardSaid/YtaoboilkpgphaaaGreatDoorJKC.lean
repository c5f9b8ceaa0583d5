/-
  Layer 10, the reference: terms made.
-/
import Derived.Test.YtaoboilkpgphaaaGreatDoorKIs
namespace Go.Proofs.YtaoboilkpgphaaaGreatDoor.Q
set_option linter.unusedSimpArgs false
set_option linter.unusedVariables false
open Go.RowKit

/-- A row of ints in memory. -/
def Ints (w : World) (l : List Int) (v : Value) : Prop := ∃ A n c, v = .slice A n c ∧ n = l.length ∧ n ≤ c ∧ c ≤ maxLen ∧ (l ≠ [] → ∃ ad, A = some ad ∧ ad.block < w.heap.size ∧ ∀ k x, l[k]? = some x → w.cell? (ad.add k) = some (.int .i64 x))
theorem Ints.up {w w' : World} {l : List Int} {v : Value} (h : Ints w l v) (e : Ext w w') : Ints w' l v := by
 obtain ⟨A, n, c, h1, h2, h3, h4, h5⟩ := h
 refine ⟨A, n, c, h1, h2, h3, h4, fun hne => ?_⟩
 obtain ⟨ad, ha, hb, hc⟩ := h5 hne
 exact ⟨ad, ha, Nat.lt_of_lt_of_le hb e.size, fun k x hk => e.cell (hc k x hk)⟩
theorem Ints.le {w : World} {A : Option Addr} {n c : Nat} {l : List Int} (h : Ints w l (.slice A n c)) : n = l.length ∧ n ≤ c ∧ c ≤ 9223372036854775807 := by
 obtain ⟨A', n', c', e, h2, h3, h4, _⟩ := h
 injection e with e1 e2 e3
 subst e1 e2 e3
 exact ⟨h2, h3, by unfold maxLen at h4; omega⟩
theorem Ints.shape {w : World} {l : List Int} {v : Value} (h : Ints w l v) : ∃ A c, v = .slice A l.length c := by
 obtain ⟨A, n, c, h1, h2, _⟩ := h
 exact ⟨A, c, by rw [h1, h2]⟩
theorem Ints.get {w : World} {A : Option Addr} {n c : Nat} {l : List Int} (h : Ints w l (.slice A n c)) {k : Nat} (hk : k < n) : ∃ ad x, A = some ad ∧ l[k]? = some x ∧ w.cell? (ad.add k) = some (.int .i64 x) := by
 obtain ⟨A', n', c', e, h2, h3, h4, h5⟩ := h
 injection e with e1 e2 e3
 subst e1 e2 e3
 obtain ⟨ad, ha, hb, hc⟩ := h5 (by intro e; subst e; simp at h2; omega)
 have hx : l[k]? = some l[k] := List.getElem?_eq_getElem (by omega)
 exact ⟨ad, _, ha, hx, hc k _ hx⟩
/-- A name's Sig in memory. -/
abbrev sgv (nm : List UInt8) (A : Option Addr) (n c : Nat) (r : Int) : Value := .agg #[str nm, .slice A n c, .int .i64 r]
def IsSg (w : World) (s : M.Sg) (v : Value) : Prop := ∃ A c, v = sgv s.name A s.args.length c s.ret ∧ Ints w s.args (.slice A s.args.length c)
theorem IsSg.up {w w' : World} {s : M.Sg} {v : Value} (h : IsSg w s v) (e : Ext w w') : IsSg w' s v := by
 obtain ⟨A, c, h1, h2⟩ := h
 exact ⟨A, c, h1, h2.up e⟩
/-- A term, and what is wrong, that a call gives. -/
def GivesTm (w : World) (r : M.Tm × Int) (e : Ending) (w' : World) : Prop := ∃ v, e = .returned (.tuple #[v, .int .i64 r.2]) ∧ IsTm w' r.1 v ∧ Ext w w'
/-- A term that a call gives. -/
def GivesT1 (w : World) (t : M.Tm) (e : Ending) (w' : World) : Prop := ∃ v, e = .returned v ∧ IsTm w' t v ∧ Ext w w'
abbrev zero6 : Array Value := #[.int .i64 0, .bool false, .slice none 0 0, .string ⟨#[]⟩, .int .i64 0, .slice none 0 0]
theorem boxF6 {w : World} {k : Nat} {x0 x1 x2 x3 x4 x5 : Value} {T : TypeId} (h : Box w k #[x0, x1, x2, x3, x4, x5] T) : (w.cell? ⟨k, 0, none⟩ = some x0 ∧ w.cell? ⟨k, 1, none⟩ = some x1 ∧ w.cell? ⟨k, 2, none⟩ = some x2 ∧ w.cell? ⟨k, 3, none⟩ = some x3 ∧ w.cell? ⟨k, 4, none⟩ = some x4 ∧ w.cell? ⟨k, 5, none⟩ = some x5) ∧
 (w.frozen? ⟨k, 0, none⟩ = false ∧ w.frozen? ⟨k, 1, none⟩ = false ∧ w.frozen? ⟨k, 2, none⟩ = false ∧ w.frozen? ⟨k, 3, none⟩ = false ∧ w.frozen? ⟨k, 4, none⟩ = false ∧ w.frozen? ⟨k, 5, none⟩ = false) ∧ k < w.heap.size :=
 ⟨⟨h.k 0, h.k 1, h.k 2, h.k 3, h.k 4, h.k 5⟩, ⟨h.free 0, h.free 1, h.free 2, h.free 3, h.free 4, h.free 5⟩, h.lt⟩
/-- A term put into a box. -/
abbrev put6 (w : World) (k : Nat) (x0 x1 x2 x3 x4 x5 : Value) : World := (((((w.setCell ⟨k, 0, none⟩ x0).setCell ⟨k, 1, none⟩ x1).setCell ⟨k, 2, none⟩ x2).setCell ⟨k, 3, none⟩ x3).setCell ⟨k, 4, none⟩ x4).setCell ⟨k, 5, none⟩ x5
theorem put6_ext {w w1 : World} {k : Nat} {x0 x1 x2 x3 x4 x5 : Value} (e : Ext w w1) (hk : w.heap.size ≤ k) : Ext w (put6 w1 k x0 x1 x2 x3 x4 x5) := (((((e.set' hk _).set' hk _).set' hk _).set' hk _).set' hk _).set' hk _
theorem num_put6 {w : World} {v : Value} {ls : List Nat} {k : Nat} {y0 y1 y2 y3 y4 y5 x0 x1 x2 x3 x4 x5 : Value} {T : TypeId} (h : LNum w v ls) (hb : Box w k #[y0, y1, y2, y3, y4, y5] T) (hno : noLimb #[y0, y1, y2, y3, y4, y5] = true) : LNum (put6 w k x0 x1 x2 x3 x4 x5) v ls :=
 Num.kz h (keeps_store hb hno ((((((kept_setAt x0).trans (kept_setAt x1)).trans (kept_setAt x2)).trans (kept_setAt x3)).trans (kept_setAt x4)).trans (kept_setAt x5)))
theorem box3 {w wN : World} {x0 x1 x2 : Value} {T : TypeId} (h : Ext (w.alloc (.cells #[x0, x1, x2] T)) wN) : wN.cell? ⟨w.heap.size, 0, none⟩ = some x0 ∧ wN.cell? ⟨w.heap.size, 1, none⟩ = some x1 ∧ wN.cell? ⟨w.heap.size, 2, none⟩ = some x2 := by
 have h1 := (Box.new w #[x0, x1, x2] T).up h
 exact ⟨h1.k 0, h1.k 1, h1.k 2⟩
theorem kbool_n (b : Bool) (w : World) : Calls Tryz.prog 17 #[.bool b] w (GivesT1 w (.mk (if b = true then 2 else 3) false [] [] 1 [])) := by
 cases b
 all_goals
  go_enter Tryz.func17, Tryz.ntmps17
  go_wp2_with fail
 ·refine bodyPost_ret (v := kv 3 false none 0 0 [] 1 none 0 0) (by simp [results, Tryz.results17, go_sem]) rfl ?_
  exact ⟨_, rfl, ⟨none, 0, 0, none, 0, rfl, LNum.nil _, Tms.nil _⟩, Ext.alloc _ _⟩
 ·refine bodyPost_ret (v := kv 2 false none 0 0 [] 1 none 0 0) (by simp [results, Tryz.results17, go_sem]) rfl ?_
  exact ⟨_, rfl, ⟨none, 0, 0, none, 0, rfl, LNum.nil _, Tms.nil _⟩, Ext.alloc _ _⟩
/-- The term of a number. -/
def M.knumT (Z : Int) : M.Tm := .mk 1 (decide (Z < 0)) (M.limbs Z.natAbs) [] 2 []
theorem worth_shape {w : World} {v : Value} {Z : Int} {k : Nat} (h : Worth w v Z k) : ∃ g A n c, v = .agg #[.bool g, .slice A n c] := Worth.shape h
set_option maxHeartbeats 4000000 in
theorem kNum_n {Z : Int} {j : Nat} {v : Value} {w : World} (h : Worth w v Z j) : Calls Tryz.prog 15 #[v] w (GivesT1 w (M.knumT Z)) := by
 obtain ⟨g, A, n, c, rfl⟩ := worth_shape h
 have HC := hid (show ∀ w', Ext w w' → Calls Tryz.prog 47 #[.agg #[.bool g, .slice A n c]] w' (GivesZ w' Z j) from fun w' e => rMay_w (worth_up h e))
 have HG := hid (rfl : w.heap.size + 1 = w.heap.size + 1)
 clear h
 go_enter Tryz.func15, Tryz.ntmps15
 go_wp2_with fail
 refine (HC.out _ (alloc_two w _ _)).mono ?_
 rintro e w1 ⟨v1, rfl, hv1, hx⟩
 obtain ⟨A1, n1, c1, rfl, hn1, hk1⟩ := hv1
 have hbx : Ext ((w.alloc (.cells #[.bool g, .slice A n c] 28)).alloc (.cells zero6 33)) w1 := hx
 obtain ⟨⟨r0, r1, r2, r3, r4, r5⟩, ⟨q0, q1, q2, q3, q4, q5⟩, hz⟩ := boxF6 ((Box.at_ (w := w.alloc (.cells #[.bool g, .slice A n c] 28)) (g := w.heap.size + 1) zero6 33 (by simp)).up hbx)
 have E := hid (show Ext w w1 from (alloc_two w _ _).trans hbx)
 have HN1 := hid hn1
 obtain ⟨d, hd⟩ : ∃ d, decide (Z < 0) = d := ⟨_, rfl⟩
 have HB := hid ((Box.at_ (w := w.alloc (.cells #[.bool g, .slice A n c] 28)) (g := w.heap.size + 1) zero6 33 (by simp)).up hbx)
 rw [hd]
 have HD := hid hd
 clear hx hbx hn1 hk1 hd
 go_wp2_with fail
 refine bodyPost_ret (v := kv 1 d A1 n1 c1 [] 2 none 0 0) (by simp [results, Tryz.results15, go_sem, r0, r1, r2, r3, r4, r5, hz]) rfl ?_
 refine ⟨_, rfl, ⟨A1, n1, c1, none, 0, by rw [← HD.out]; rfl, ?_, Tms.nil _⟩, put6_ext E.out (by omega)⟩
 exact num_put6 HN1.out HB.out rfl
set_option maxHeartbeats 8000000 in
theorem kIsSig_n {s : M.Sg} {v : Value} {w : World} (h : IsSg w s v) (hl : s.name.length ≤ 1000000000000) : Calls Tryz.prog 13 #[v] w (GivesB w (M.ksig s)) := by
 obtain ⟨nm, ag, rt⟩ := s
 obtain ⟨A, c, rfl, hi⟩ := h
 replace hi : Ints w ag (.slice A ag.length c) := hi
 show Calls Tryz.prog 13 #[sgv nm A ag.length c rt] w _
 obtain ⟨hl1, hl2, hl3⟩ := hi.le
 obtain ⟨n, hn'⟩ : ∃ n, ag.length = n := ⟨_, rfl⟩
 obtain ⟨sy, hsy⟩ : ∃ s, M.isSym nm = s := ⟨_, rfl⟩
 have hz : M.ksig ⟨nm, ag, rt⟩ = ((ag.all fun a => decide (a = 1 ∨ a = 2)) && (sy && (decide (n ≤ 3) && decide (rt = 1 ∨ rt = 2)))) := by unfold M.ksig; rw [hsy, hn']
 obtain ⟨z, hzz⟩ : ∃ z, M.ksig ⟨nm, ag, rt⟩ = z := ⟨_, rfl⟩
 rw [hzz]
 rw [hzz] at hz
 rw [hn'] at hi hl2 ⊢
 have HI := hid hi
 have HN := hid hn'
 have HZ := hid hz
 have HY := hid (show ∀ w', Calls Tryz.prog 44 #[str nm] w' (GivesB w' sy) from fun w' => (rSymbol_n nm hl w').mono fun e w2 h => ⟨by rw [h.1, hsy], h.2 ▸ Ext.refl _⟩)
 clear hi hl1 hn' hz hsy hzz hl
 go_enter Tryz.func13, Tryz.ntmps13
 go_wp2_with fail
 go_loopw [3] (fun i wr => ∃ (k : Nat), i = .int .i64 (k : Int) ∧ k ≤ n ∧ Hid ((ag.take k).all (fun a => decide (a = 1 ∨ a = 2)) = true ∧ wr = w.alloc (.cells #[str nm, .slice A n c, .int .i64 rt] 24))) (fun i _ => n - (intOf i).toNat)
 case atStart => exact ⟨0, rfl, Nat.zero_le _, by simp, rfl⟩
 case round =>
  obtain ⟨k, rfl, hk, hR⟩ := hrel
  have HS := hid hR.out.1
  obtain rfl := hR.out.2
  clear hR
  rcases Nat.lt_or_ge k n with hlt | hge
  ·have hlt' : (k : Int) < (n : Int) := by omega
   obtain ⟨ad, x, rfl, hx, hc0⟩ := HI.out.get hlt
   have c0 := fun o => (Ext.alloc w o).cell hc0
   have HX := hid hx
   clear hx hc0
   by_cases h1 : x = 1
   ·subst h1
    have HS2 := hid (show (ag.take (k + 1)).all (fun a => decide (a = 1 ∨ a = 2)) = true by rw [List.take_add_one, HX.out, List.all_append, HS.out]; rfl)
    go_wp2_with fail
    go_roundw
    case rel => exact ⟨k + 1, by simp, by omega, HS2.out, by trivial⟩
    case measure => simp [intOf]; omega
   by_cases h2 : x = 2
   ·subst h2
    have HS2 := hid (show (ag.take (k + 1)).all (fun a => decide (a = 1 ∨ a = 2)) = true by rw [List.take_add_one, HX.out, List.all_append, HS.out]; rfl)
    clear h1
    go_wp2_with fail
    go_roundw
    case rel => exact ⟨k + 1, by simp, by omega, HS2.out, by trivial⟩
    case measure => simp [intOf]; omega
   have hq1 : (x != 1) = true := by simpa using h1
   have hq2 : (x != 2) = true := by simpa using h2
   have HZ2 := hid (show false = z by
    rw [HZ.out, List.all_eq_false.2 ⟨x, List.mem_of_getElem? HX.out, by simp [h1, h2]⟩]; rfl)
   clear h1 h2
   go_wp2_with fail
   go_ret
   obtain rfl := HZ2.out
   exact ⟨rfl, Ext.alloc _ _⟩
  ·obtain rfl : n = k := by omega
   have hz2 : z = (sy && (decide (n ≤ 3) && decide (rt = 1 ∨ rt = 2))) := by
    have h1 := HS.out
    rw [← HN.out, List.take_length] at h1
    rw [HZ.out, h1, Bool.true_and]
   cases sy
   ·have HZ2 := hid (show false = z by rw [hz2]; rfl)
    clear hz2 hge hk
    go_wp2_with (go_at_call 44; refine (HY.out _).mono ?_; rintro e w' ⟨rfl, hx⟩; have E := hid hx; obtain ⟨r0, r1, r2⟩ := box3 hx; clear hx)
    go_ret
    obtain rfl := HZ2.out
    exact ⟨rfl, (Ext.alloc _ _).trans E.out⟩
   rw [Bool.true_and] at hz2
   by_cases hn3 : n ≤ 3
   case neg =>
    have HZ2 := hid (show false = z by rw [hz2, decide_eq_false hn3]; rfl)
    have hq : decide ((n : Int) ≤ 3) = false := by simp; omega
    clear hz2 hge hk hn3
    go_wp2_with (go_at_call 44; refine (HY.out _).mono ?_; rintro e w' ⟨rfl, hx⟩; have E := hid hx; obtain ⟨r0, r1, r2⟩ := box3 hx; clear hx)
    go_ret
    obtain rfl := HZ2.out
    exact ⟨rfl, (Ext.alloc _ _).trans E.out⟩
   case pos =>
   rw [decide_eq_true hn3, Bool.true_and] at hz2
   have hq : (n : Int) ≤ 3 := by omega
   by_cases h1 : rt = 1
   ·subst h1
    have HZ2 := hid (show true = z by rw [hz2]; rfl)
    clear hz2 hge hk hn3
    go_wp2_with (go_at_call 44; refine (HY.out _).mono ?_; rintro e w' ⟨rfl, hx⟩; have E := hid hx; obtain ⟨r0, r1, r2⟩ := box3 hx; clear hx)
    go_ret
    obtain rfl := HZ2.out
    exact ⟨rfl, (Ext.alloc _ _).trans E.out⟩
   by_cases h2 : rt = 2
   ·subst h2
    have HZ2 := hid (show true = z by rw [hz2]; rfl)
    clear hz2 hge hk hn3 h1
    go_wp2_with (go_at_call 44; refine (HY.out _).mono ?_; rintro e w' ⟨rfl, hx⟩; have E := hid hx; obtain ⟨r0, r1, r2⟩ := box3 hx; clear hx)
    go_ret
    obtain rfl := HZ2.out
    exact ⟨rfl, (Ext.alloc _ _).trans E.out⟩
   have HZ2 := hid (show false = z by rw [hz2, decide_eq_false (by omega)])
   have hq1 : (rt == 1) = false := by simpa using h1
   have hq2 : (rt == 2) = false := by simpa using h2
   clear hz2 hge hk hn3 h1 h2
   go_wp2_with (go_at_call 44; refine (HY.out _).mono ?_; rintro e w' ⟨rfl, hx⟩; have E := hid hx; obtain ⟨r0, r1, r2⟩ := box3 hx; clear hx)
   go_ret
   obtain rfl := HZ2.out
   exact ⟨rfl, (Ext.alloc _ _).trans E.out⟩
set_option maxHeartbeats 16000000 in
set_option maxRecDepth 100000 in
theorem kMake_n {op : Int} {l : List M.Tm} {v : Value} {w : World} (ht : Tms w l v) (hf : ∀ t ∈ l, M.kfew t = true) : Calls Tryz.prog 8 #[.int .i64 op, v] w (GivesTm w (M.kmake op l)) := by
 obtain ⟨A, c, rfl⟩ := ht.shape
 obtain ⟨hl1, hl2, hl3⟩ := ht.le
 obtain ⟨n, hn'⟩ : ∃ n, l.length = n := ⟨_, rfl⟩
 rw [hn'] at ht hl2 ⊢
 have HT := hid ht
 have HN := hid hn'
 have HF := hid hf
 obtain ⟨G, hG⟩ : ∃ G, w.heap.size = G := ⟨_, rfl⟩
 have HG := hid hG
 obtain ⟨R, hR⟩ : ∃ R, M.kmake op l = R := ⟨_, rfl⟩
 have hR2 : R = (if op < 5 ∨ 22 < op then (M.K0, 10) else if M.kargs op n = false then (M.K0, 18) else if M.kIss l = false then (M.K0, 10) else if M.kcheck op l ≠ 0 then (M.K0, M.kcheck op l) else (.mk op false [] [] (M.kres op l) l, 0)) := by rw [← hR, ← hn']; rfl
 have HRR := hid hR2
 rw [hR]
 clear ht hl1 hn' hf hG hR hR2
 rcases (show op < 5 ∨ 22 < op ∨ (5 ≤ op ∧ op ≤ 22) by omega) with h5 | h22 | hop
 ·have HR := hid (show R = (M.K0, 10) by rw [HRR.out, if_pos (.inl h5)])
  go_enter Tryz.func8, Tryz.ntmps8
  go_wp2_with fail
  refine bodyPost_ret (v := .tuple #[kv 0 false none 0 0 [] 0 none 0 0, .int .i64 10]) (by simp [results, Tryz.results8, go_sem]) rfl ?_
  rw [HR.out]
  exact ⟨_, rfl, IsTm.zero _, Ext.alloc _ _⟩
 ·have HR := hid (show R = (M.K0, 10) by rw [HRR.out, if_pos (.inr h22)])
  have hq : decide (op < 5) = false := by simp; omega
  go_enter Tryz.func8, Tryz.ntmps8
  go_wp2_with fail
  refine bodyPost_ret (v := .tuple #[kv 0 false none 0 0 [] 0 none 0 0, .int .i64 10]) (by simp [results, Tryz.results8, go_sem]) rfl ?_
  rw [HR.out]
  exact ⟨_, rfl, IsTm.zero _, Ext.alloc _ _⟩
 have hq5 : decide (op < 5) = false := by simp; omega
 have hq22 : decide (22 < op) = false := by simp; omega
 have hR2 := HRR.out
 rw [if_neg (by omega)] at hR2
 obtain ⟨ar, har⟩ : ∃ ar, M.kargs op n = ar := ⟨_, rfl⟩
 have HA := hid (show ∀ w', Calls Tryz.prog 33 #[.int .i64 op, .int .i64 (n : Int)] w' (GivesB w' ar) from fun w' => har ▸ kargs_n hop n w')
 rw [har] at hR2
 cases ar
 ·have HR := hid (show R = (M.K0, 18) by rw [hR2, if_pos rfl])
  clear hR2 har
  go_enter Tryz.func8, Tryz.ntmps8
  go_wp2_with fail
  refine (HA.out _).mono ?_
  rintro e w1 ⟨rfl, hx⟩
  have hbx : Ext (w.alloc (.cells zero6 33)) w1 := hx
  obtain ⟨⟨r0, r1, r2, r3, r4, r5⟩, ⟨q0, q1, q2, q3, q4, q5⟩, hz⟩ := boxF6 ((Box.new w zero6 33).up hbx)
  have E := hid (show Ext w w1 from (Ext.alloc w _).trans hbx)
  clear hx hbx
  go_wp2_with fail
  refine bodyPost_ret (v := .tuple #[kv 0 false none 0 0 [] 0 none 0 0, .int .i64 18]) (by simp [results, Tryz.results8, go_sem, r0, r1, r2, r3, r4, r5, hz]) rfl ?_
  rw [HR.out]
  exact ⟨_, rfl, IsTm.zero _, put6_ext E.out (Nat.le_refl _)⟩
 rw [if_neg (by decide)] at hR2
 have HR2 := hid hR2
 have har2 := hid (show M.kargs op l.length = true by rw [HN.out]; exact har)
 clear hR2 har
 go_enter Tryz.func8, Tryz.ntmps8
 go_wp2_with fail
 refine (HA.out _).mono ?_
 rintro e w1 ⟨rfl, hx⟩
 have E1 := hid (show Ext (w.alloc (.cells zero6 33)) w1 from hx)
 clear hx
 go_wp2_with fail
 go_loopw [6] (fun i wr => ∃ (k : Nat), i = .int .i64 (k : Int) ∧ k ≤ n ∧ Hid (M.kIss (l.take k) = true ∧ Ext (w.alloc (.cells zero6 33)) wr)) (fun i _ => n - (intOf i).toNat)
 case atStart => exact ⟨0, rfl, Nat.zero_le _, by simp [M.kIss], E1.out⟩
 case round =>
  obtain ⟨k, rfl, hk, hR⟩ := hrel
  have E := hid hR.out.2
  have HS := hid hR.out.1
  clear hR
  rcases Nat.lt_or_ge k n with hlt | hge
  ·have hlt' : (k : Int) < (n : Int) := by omega
   obtain ⟨ad, u, N', nn', nc', B, d, rfl, hu, ⟨c0, c1, c2, c3, c4, c5⟩, hv⟩ := (HT.out.up ((Ext.alloc w _).trans E.out)).get hlt
   have HU := hid hu
   have HC := hid (rkIs_n u hv (HF.out u (List.mem_of_getElem? hu)))
   obtain ⟨q, hq'⟩ : ∃ q, M.kIs u = q := ⟨_, rfl⟩
   have HQ := hid hq'
   rw [hq'] at HC
   clear hu hv hq'
   cases q
   ·have HR := hid (show R = (M.K0, 10) by rw [HR2.out, if_pos (M.not_kIss HU.out HQ.out)])
    go_wp2_with fail
    refine HC.out.mono ?_
    rintro e w2 ⟨rfl, hx⟩
    replace E := hid (E.out.trans hx)
    obtain ⟨⟨r0, r1, r2, r3, r4, r5⟩, ⟨q0, q1, q2, q3, q4, q5⟩, hz⟩ := boxF6 ((Box.new w zero6 33).up E.out)
    clear hx
    go_wp2_with fail
    refine bodyPost_ret (v := .tuple #[kv 0 false none 0 0 [] 0 none 0 0, .int .i64 10]) (by simp [results, Tryz.results8, go_sem, r0, r1, r2, r3, r4, r5, hz]) rfl ?_
    rw [HR.out]
    exact ⟨_, rfl, IsTm.zero _, put6_ext ((Ext.alloc w _).trans E.out) (Nat.le_refl _)⟩
   ·go_wp2_with fail
    refine HC.out.mono ?_
    rintro e w2 ⟨rfl, hx⟩
    replace E := hid (E.out.trans hx)
    clear hx
    go_wp2_with fail
    go_roundw
    case rel => exact ⟨k + 1, by simp, by omega, by rw [M.kIss_take HU.out, HS.out, HQ.out]; rfl, E.out⟩
    case measure => simp [intOf]; omega
  ·obtain rfl : n = k := by omega
   have hR3 := HR2.out
   have h1 := HS.out
   rw [← HN.out, List.take_length] at h1
   rw [if_neg (by rw [h1]; decide)] at hR3
   obtain ⟨ck, hck⟩ : ∃ ck, M.kcheck op l = ck := ⟨_, rfl⟩
   obtain ⟨rs, hrs⟩ : ∃ rs, M.kres op l = rs := ⟨_, rfl⟩
   have HK := hid (show ∀ w', Ext w w' → Calls Tryz.prog 35 #[.int .i64 op, .slice A n c] w' (GivesN w' ck) from fun w' e => hck ▸ kcheck_n hop (HT.out.up e) har2.out)
   have HRS := hid (show ∀ w', Ext w w' → Calls Tryz.prog 36 #[.int .i64 op, .slice A n c] w' (GivesN w' rs) from fun w' e => hrs ▸ kres_n hop (HT.out.up e) har2.out)
   rw [hck, hrs] at hR3
   clear h1 hck hrs hge hk
   by_cases hc0 : ck = 0
   case neg =>
    have HR := hid (show R = (M.K0, ck) by rw [hR3, if_pos hc0])
    have hq : (ck != 0) = true := by simpa using hc0
    clear hR3 hc0
    go_wp2_with fail
    refine (HK.out _ ((Ext.alloc w _).trans E.out)).mono ?_
    rintro e w2 ⟨rfl, hx⟩
    replace E := hid (E.out.trans hx)
    obtain ⟨⟨r0, r1, r2, r3, r4, r5⟩, ⟨q0, q1, q2, q3, q4, q5⟩, hz⟩ := boxF6 ((Box.new w zero6 33).up E.out)
    clear hx
    go_wp2_with fail
    refine bodyPost_ret (v := .tuple #[kv 0 false none 0 0 [] 0 none 0 0, .int .i64 ck]) (by simp [results, Tryz.results8, go_sem, r0, r1, r2, r3, r4, r5, hz]) rfl ?_
    rw [HR.out]
    exact ⟨_, rfl, IsTm.zero _, put6_ext ((Ext.alloc w _).trans E.out) (Nat.le_refl _)⟩
   case pos =>
    subst hc0
    have HR := hid (show R = (.mk op false [] [] rs l, 0) by rw [hR3, if_neg (by decide)])
    clear hR3
    go_wp2_with fail
    refine (HK.out _ ((Ext.alloc w _).trans E.out)).mono ?_
    rintro e w2 ⟨rfl, hx⟩
    replace E := hid (E.out.trans hx)
    clear hx
    go_wp2_with fail
    refine (HRS.out _ ((Ext.alloc w _).trans E.out)).mono ?_
    rintro e w3 ⟨rfl, hx⟩
    replace E := hid (E.out.trans hx)
    obtain ⟨⟨r0, r1, r2, r3, r4, r5⟩, ⟨q0, q1, q2, q3, q4, q5⟩, hz⟩ := boxF6 ((Box.new w zero6 33).up E.out)
    clear hx
    go_wp2_with fail
    refine bodyPost_ret (v := .tuple #[kv op false none 0 0 [] rs A n c, .int .i64 0]) (by simp [results, Tryz.results8, go_sem, r0, r1, r2, r3, r4, r5, hz]) rfl ?_
    rw [HR.out]
    have EF : Ext w (put6 w3 w.heap.size (.int .i64 op) (.bool false) (.slice none 0 0) (.string ⟨#[]⟩) (.int .i64 rs) (.slice A n c)) := put6_ext ((Ext.alloc w _).trans E.out) (Nat.le_refl _)
    refine ⟨_, rfl, ?_, EF⟩
    have := HT.out.up EF
    refine ⟨none, 0, 0, A, c, ?_, LNum.nil _, ?_⟩
    ·show kv op false none 0 0 [] rs A n c = kv op false none 0 0 [] rs A l.length c
     rw [HN.out]
    ·show Tms _ l (.slice A l.length c)
     rw [HN.out]; exact this
end Go.Proofs.YtaoboilkpgphaaaGreatDoor.Q

/-
  Layer 10, the reference: an application made.
-/
namespace Go.Proofs.YtaoboilkpgphaaaGreatDoor.Q
set_option linter.unusedSimpArgs false
set_option linter.unusedVariables false
open Go.RowKit

set_option maxHeartbeats 16000000 in
set_option maxRecDepth 100000 in
theorem kApp_n {s : M.Sg} {l : List M.Tm} {v v' : Value} {w : World} (hs : IsSg w s v') (hl : s.name.length ≤ 1000000000000) (ht : Tms w l v) (hf : ∀ t ∈ l, M.kfew t = true) : Calls Tryz.prog 10 #[v', v] w (GivesTm w (M.kapp s l)) := by
 have HI0 := hid (show ∀ w', Ext w w' → IsSg w' s v' from fun w' e => hs.up e)
 obtain ⟨nm, ag, rt⟩ := s
 obtain ⟨B0, bc, rfl, hi⟩ := hs
 replace hi : Ints w ag (.slice B0 ag.length bc) := hi
 obtain ⟨A, c, rfl⟩ := ht.shape
 obtain ⟨hl1, hl2, hl3⟩ := ht.le
 obtain ⟨hm1, hm2, hm3⟩ := hi.le
 obtain ⟨n, hn'⟩ : ∃ n, l.length = n := ⟨_, rfl⟩
 obtain ⟨m, hm'⟩ : ∃ m, ag.length = m := ⟨_, rfl⟩
 replace HI0 := hid (show ∀ w', Ext w w' → IsSg w' ⟨nm, ag, rt⟩ (sgv nm B0 ag.length bc rt) from HI0.out)
 rw [hm'] at HI0
 show Calls Tryz.prog 10 #[sgv nm B0 ag.length bc rt, .slice A l.length c] w _
 rw [hn'] at ht hl2
 rw [hm'] at hi hm2
 rw [hn', hm']
 have HT := hid ht
 have HI := hid hi
 have HN := hid hn'
 have HM := hid hm'
 have HF := hid hf
 obtain ⟨sg, hsg⟩ : ∃ sg, M.ksig ⟨nm, ag, rt⟩ = sg := ⟨_, rfl⟩
 have HSG := hid (show ∀ w', Ext w w' → Calls Tryz.prog 13 #[sgv nm B0 m bc rt] w' (GivesB w' sg) from fun w' e => by
  have := kIsSig_n (HI0.out w' e) hl
  rwa [hsg] at this)
 obtain ⟨R, hR⟩ : ∃ R, M.kapp ⟨nm, ag, rt⟩ l = R := ⟨_, rfl⟩
 have hR2 : R = (if sg = false then (M.K0, 10) else if n ≠ m then (M.K0, 18) else if M.kIss l = false then (M.K0, 10) else if l.map M.Tm.sort ≠ ag then (M.K0, 17) else if 400 < 1 + M.kcnts l then (M.K0, 11) else (.mk 4 false [] nm rt l, 0)) := by rw [← hR, ← hn', ← hm', ← hsg]; rfl
 rw [hR]
 clear ht hl1 hn' hf hR hi hm1 hm' HI0 hsg hl
 cases sg
 ·have HR := hid (show R = (M.K0, 10) by rw [hR2, if_pos rfl])
  clear hR2
  go_enter Tryz.func10, Tryz.ntmps10
  go_wp2_with fail
  refine (HSG.out _ (alloc_two w _ _)).mono ?_
  rintro e w1 ⟨rfl, hx⟩
  have hbx : Ext ((w.alloc (.cells #[str nm, .slice B0 m bc, .int .i64 rt] 24)).alloc (.cells zero6 33)) w1 := hx
  obtain ⟨⟨r0, r1, r2, r3, r4, r5⟩, ⟨q0, q1, q2, q3, q4, q5⟩, hz⟩ := boxF6 ((Box.at_ (w := w.alloc (.cells #[str nm, .slice B0 m bc, .int .i64 rt] 24)) (g := w.heap.size + 1) zero6 33 (by simp)).up hbx)
  have E := hid (show Ext w w1 from (alloc_two w _ _).trans hbx)
  clear hx hbx
  go_wp2_with fail
  refine bodyPost_ret (v := .tuple #[kv 0 false none 0 0 [] 0 none 0 0, .int .i64 10]) (by simp [results, Tryz.results10, go_sem, r0, r1, r2, r3, r4, r5, hz]) rfl ?_
  rw [HR.out]
  exact ⟨_, rfl, IsTm.zero _, put6_ext E.out (by omega)⟩
 rw [if_neg (by decide)] at hR2
 by_cases hnm : n = m
 case neg =>
  have HR := hid (show R = (M.K0, 18) by rw [hR2, if_pos hnm])
  have hq : ((n : Int) != (m : Int)) = true := by simp; omega
  clear hR2 hnm
  go_enter Tryz.func10, Tryz.ntmps10
  go_wp2_with fail
  refine (HSG.out _ (alloc_two w _ _)).mono ?_
  rintro e w1 ⟨rfl, hx⟩
  have hbx : Ext ((w.alloc (.cells #[str nm, .slice B0 m bc, .int .i64 rt] 24)).alloc (.cells zero6 33)) w1 := hx
  obtain ⟨p0, p1, p2⟩ := box3 ((Ext.alloc _ _).trans hbx)
  obtain ⟨⟨r0, r1, r2, r3, r4, r5⟩, ⟨q0, q1, q2, q3, q4, q5⟩, hz⟩ := boxF6 ((Box.at_ (w := w.alloc (.cells #[str nm, .slice B0 m bc, .int .i64 rt] 24)) (g := w.heap.size + 1) zero6 33 (by simp)).up hbx)
  have E := hid (show Ext w w1 from (alloc_two w _ _).trans hbx)
  clear hx hbx
  go_wp2_with fail
  refine bodyPost_ret (v := .tuple #[kv 0 false none 0 0 [] 0 none 0 0, .int .i64 18]) (by simp [results, Tryz.results10, go_sem, r0, r1, r2, r3, r4, r5, hz]) rfl ?_
  rw [HR.out]
  exact ⟨_, rfl, IsTm.zero _, put6_ext E.out (by omega)⟩
 case pos =>
 subst hnm
 rw [if_neg (by simp)] at hR2
 have HR2 := hid hR2
 clear hR2
 go_enter Tryz.func10, Tryz.ntmps10
 go_wp2_with fail
 refine (HSG.out _ (alloc_two w _ _)).mono ?_
 rintro e w1 ⟨rfl, hx⟩
 have E1 := hid (show Ext ((w.alloc (.cells #[str nm, .slice B0 n bc, .int .i64 rt] 24)).alloc (.cells zero6 33)) w1 from hx)
 obtain ⟨p0, p1, p2⟩ := box3 ((Ext.alloc _ _).trans E1.out)
 clear hx
 go_wp2_with fail
 clear p0 p1 p2
 go_loopw [6] (fun i wr => ∃ (k : Nat), i = .int .i64 (k : Int) ∧ k ≤ n ∧ Hid (M.kIss (l.take k) = true ∧ Ext ((w.alloc (.cells #[str nm, .slice B0 n bc, .int .i64 rt] 24)).alloc (.cells zero6 33)) wr)) (fun i _ => n - (intOf i).toNat)
 case atStart => exact ⟨0, rfl, Nat.zero_le _, by simp [M.kIss], E1.out⟩
 case round =>
  obtain ⟨k, rfl, hk, hR⟩ := hrel
  have E := hid hR.out.2
  have HS := hid hR.out.1
  clear hR
  rcases Nat.lt_or_ge k n with hlt | hge
  ·have hlt' : (k : Int) < (n : Int) := by omega
   obtain ⟨ad, u, N', nn', nc', B, d, rfl, hu, ⟨c0, c1, c2, c3, c4, c5⟩, hv⟩ := (HT.out.up ((alloc_two w _ _).trans E.out)).get hlt
   have HU := hid hu
   have HC := hid (rkIs_n u hv (HF.out u (List.mem_of_getElem? hu)))
   obtain ⟨q, hq'⟩ : ∃ q, M.kIs u = q := ⟨_, rfl⟩
   have HQ := hid hq'
   rw [hq'] at HC
   clear hu hv hq'
   cases q
   ·have HR := hid (show R = (M.K0, 10) by rw [HR2.out, if_pos (M.not_kIss HU.out HQ.out)])
    go_wp2_with fail
    refine HC.out.mono ?_
    rintro e w2 ⟨rfl, hx⟩
    replace E := hid (E.out.trans hx)
    obtain ⟨⟨r0, r1, r2, r3, r4, r5⟩, ⟨q0, q1, q2, q3, q4, q5⟩, hz⟩ := boxF6 ((Box.at_ (w := w.alloc (.cells #[str nm, .slice B0 n bc, .int .i64 rt] 24)) (g := w.heap.size + 1) zero6 33 (by simp)).up E.out)
    clear hx
    go_wp2_with fail
    refine bodyPost_ret (v := .tuple #[kv 0 false none 0 0 [] 0 none 0 0, .int .i64 10]) (by simp [results, Tryz.results10, go_sem, r0, r1, r2, r3, r4, r5, hz]) rfl ?_
    rw [HR.out]
    exact ⟨_, rfl, IsTm.zero _, put6_ext ((alloc_two w _ _).trans E.out) (by omega)⟩
   ·go_wp2_with fail
    refine HC.out.mono ?_
    rintro e w2 ⟨rfl, hx⟩
    replace E := hid (E.out.trans hx)
    clear hx
    go_wp2_with fail
    go_roundw
    case rel => exact ⟨k + 1, by simp, by omega, by rw [M.kIss_take HU.out, HS.out, HQ.out]; rfl, E.out⟩
    case measure => simp [intOf]; omega
  ·obtain rfl : n = k := by omega
   have hR3 := HR2.out
   have h1 := HS.out
   rw [← HN.out, List.take_length] at h1
   rw [if_neg (by rw [h1]; decide)] at hR3
   have HR3 := hid hR3
   have E2 := hid E.out
   clear h1 hR3 hge hk HR2 E1
   go_wp2_with fail
   go_loopw [7] (fun i wr => ∃ (k : Nat), i = .int .i64 (k : Int) ∧ k ≤ n ∧ Hid ((l.take k).map M.Tm.sort = ag.take k ∧ Ext ((w.alloc (.cells #[str nm, .slice B0 n bc, .int .i64 rt] 24)).alloc (.cells zero6 33)) wr)) (fun i _ => n - (intOf i).toNat)
   case atStart => exact ⟨0, rfl, Nat.zero_le _, by simp, E2.out⟩
   case round =>
    obtain ⟨k, rfl, hk, hR⟩ := hrel
    have E := hid hR.out.2
    have HS := hid hR.out.1
    obtain ⟨p0, p1, p2⟩ := box3 ((Ext.alloc _ _).trans E.out)
    obtain ⟨⟨r0, r1, r2, r3, r4, r5⟩, ⟨q0, q1, q2, q3, q4, q5⟩, hz⟩ := boxF6 ((Box.at_ (w := w.alloc (.cells #[str nm, .slice B0 n bc, .int .i64 rt] 24)) (g := w.heap.size + 1) zero6 33 (by simp)).up E.out)
    clear hR
    rcases Nat.lt_or_ge k n with hlt | hge
    ·have hlt' : (k : Int) < (n : Int) := by omega
     obtain ⟨ad, u, N', nn', nc', B, d, rfl, hu, ⟨c0, c1, c2, c3, c4, c5⟩, hv⟩ := (HT.out.up ((alloc_two w _ _).trans E.out)).get hlt
     obtain ⟨ad2, x, rfl, hx, a0⟩ := (HI.out.up ((alloc_two w _ _).trans E.out)).get hlt
     obtain ⟨y, hy⟩ : ∃ y, u.sort = y := ⟨_, rfl⟩
     rw [hy] at c4
     have HU := hid hu
     have HX := hid hx
     have HY := hid hy
     clear hu hx hy hv c0 c1 c2 c3 c5
     by_cases hxy : y = x
     ·subst hxy
      have HS2 := hid (show (l.take (k + 1)).map M.Tm.sort = ag.take (k + 1) by
       rw [List.take_add_one, List.take_add_one, HU.out, HX.out, List.map_append, HS.out]; simp [HY.out])
      go_wp2_with fail
      refine wp_region_D [(0, 0), (1, 0), (2, 0), (3, 0), (4, 0), (5, 0), (6, 0), (7, 0), (8, 0), (9, 0), (10, 0)] fun wd hb => ?_
      replace E := hid (E.out.trans hb)
      replace c4 := hb.cell c4
      replace p1 := hb.cell p1
      replace a0 := hb.cell a0
      clear hb
      refine WE.p 38 (.slice (some ad) n c) ?_
      simp only [Act.put, pA, pB, pC]
      refine WE.p 39 (.int .i64 (k : Int)) ?_
      simp only [Act.put, pA, pB, pC]
      refine WE.p 40 (.pointer (some (ad.add (k * 6)))) ?_
      simp only [Act.put, pA, pB, pC]
      refine WE.p 41 (.pointer (some ⟨(ad.add (k * 6)).block, (ad.add (k * 6)).off + 4, none⟩)) ?_
      simp only [Act.put, pA, pB, pC]
      refine WE.q 42 (.int .i64 y) rfl (fun w' hk => by have ce := hk.cell c4; go_simp) ?_
      simp only [Act.put, pA, pB, pC]
      refine WE.p 43 (.pointer (some ⟨w.heap.size, 1, none⟩)) ?_
      simp only [Act.put, pA, pB, pC]
      refine WE.q 44 (.slice (some ad2) n bc) rfl (fun w' hk => by have ce := hk.cell p1; go_simp) ?_
      simp only [Act.put, pA, pB, pC]
      refine WE.p 45 (.int .i64 (k : Int)) ?_
      simp only [Act.put, pA, pB, pC]
      refine WE.p 46 (.pointer (some (ad2.add k))) ?_
      simp only [Act.put, pA, pB, pC]
      refine WE.q 47 (.int .i64 y) rfl (fun w' hk => by have ce := hk.cell a0; go_simp) ?_
      simp only [Act.put, pA, pB, pC]
      refine WE.p 48 (.bool false) ?_
      simp only [Act.put, pA, pB, pC]
      refine WE.done ?_
      go_wp2_with fail
      go_roundw
      case rel => exact ⟨k + 1, by simp, by omega, HS2.out, E.out⟩
      case measure => simp [intOf]; omega
     ·have hq : (y != x) = true := by simpa using hxy
      have HR := hid (show R = (M.K0, 17) by
       rw [HR3.out, if_pos]
       intro e
       have h2 : (l.map M.Tm.sort)[k]? = some y := by rw [List.getElem?_map, HU.out]; simp [HY.out]
       rw [e, HX.out] at h2
       injection h2 with h2
       exact hxy h2.symm)
      clear hxy
      go_wp2_with fail
      refine wp_region_D [(0, 0), (1, 0), (2, 0), (3, 0), (4, 0), (5, 0), (6, 0), (7, 0), (8, 0), (9, 0), (10, 0)] fun wd hb => ?_
      replace E := hid (E.out.trans hb)
      replace c4 := hb.cell c4
      replace p1 := hb.cell p1
      replace a0 := hb.cell a0
      obtain ⟨⟨r0, r1, r2, r3, r4, r5⟩, ⟨q0, q1, q2, q3, q4, q5⟩, hz⟩ := boxF6 ((Box.at_ (w := w.alloc (.cells #[str nm, .slice (some ad2) n bc, .int .i64 rt] 24)) (g := w.heap.size + 1) zero6 33 (by simp)).up E.out)
      clear hb
      refine WE.p 38 (.slice (some ad) n c) ?_
      simp only [Act.put, pA, pB, pC]
      refine WE.p 39 (.int .i64 (k : Int)) ?_
      simp only [Act.put, pA, pB, pC]
      refine WE.p 40 (.pointer (some (ad.add (k * 6)))) ?_
      simp only [Act.put, pA, pB, pC]
      refine WE.p 41 (.pointer (some ⟨(ad.add (k * 6)).block, (ad.add (k * 6)).off + 4, none⟩)) ?_
      simp only [Act.put, pA, pB, pC]
      refine WE.q 42 (.int .i64 y) rfl (fun w' hk => by have ce := hk.cell c4; go_simp) ?_
      simp only [Act.put, pA, pB, pC]
      refine WE.p 43 (.pointer (some ⟨w.heap.size, 1, none⟩)) ?_
      simp only [Act.put, pA, pB, pC]
      refine WE.q 44 (.slice (some ad2) n bc) rfl (fun w' hk => by have ce := hk.cell p1; go_simp) ?_
      simp only [Act.put, pA, pB, pC]
      refine WE.p 45 (.int .i64 (k : Int)) ?_
      simp only [Act.put, pA, pB, pC]
      refine WE.p 46 (.pointer (some (ad2.add k))) ?_
      simp only [Act.put, pA, pB, pC]
      refine WE.q 47 (.int .i64 x) rfl (fun w' hk => by have ce := hk.cell a0; go_simp) ?_
      simp only [Act.put, pA, pB, pC]
      refine WE.p 48 (.bool true) ?_
      simp only [Act.put, pA, pB, pC]
      refine WE.done ?_
      go_wp2_with fail
      refine bodyPost_ret (v := .tuple #[kv 0 false none 0 0 [] 0 none 0 0, .int .i64 17]) (by simp [results, Tryz.results10, go_sem, r0, r1, r2, r3, r4, r5, hz]) rfl ?_
      rw [HR.out]
      exact ⟨_, rfl, IsTm.zero _, put6_ext ((alloc_two w _ _).trans E.out) (by omega)⟩
    ·obtain rfl : n = k := by omega
     have hR4 := HR3.out
     have h1 := HS.out
     rw [← HN.out, List.take_length, HN.out, ← HM.out, List.take_length] at h1
     rw [if_neg (by simp [h1])] at hR4
     obtain ⟨m, hm⟩ : ∃ m, min (1 + M.kcnts l) 401 = m := ⟨_, rfl⟩
     have HC := hid (show ∀ w', Ext w w' → Calls Tryz.prog 39 #[kv 0 false none 0 0 [] 0 A n c] w' (GivesN w' (m : Int)) from fun w' e => by
      have := rkCount_n _ (IsTm.row (HT.out.up e))
      rw [M.kcnt, hm] at this
      exact this)
     have HMM := hid hm
     clear h1 hge hk hm
     by_cases hm4 : 400 < m
     ·have hq : (400 : Int) < (m : Int) := by omega
      have HR := hid (show R = (M.K0, 11) by rw [hR4, if_pos (by have := HMM.out; omega)])
      clear hR4 hm4
      go_wp2_with fail
      refine (HC.out _ ((alloc_two w _ _).trans E.out)).mono ?_
      rintro e w3 ⟨rfl, hx⟩
      replace E := hid (E.out.trans hx)
      obtain ⟨⟨r0, r1, r2, r3, r4, r5⟩, ⟨q0, q1, q2, q3, q4, q5⟩, hz⟩ := boxF6 ((Box.at_ (w := w.alloc (.cells #[str nm, .slice B0 n bc, .int .i64 rt] 24)) (g := w.heap.size + 1) zero6 33 (by simp)).up E.out)
      clear hx
      go_wp2_with fail
      refine bodyPost_ret (v := .tuple #[kv 0 false none 0 0 [] 0 none 0 0, .int .i64 11]) (by simp [results, Tryz.results10, go_sem, r0, r1, r2, r3, r4, r5, hz]) rfl ?_
      rw [HR.out]
      exact ⟨_, rfl, IsTm.zero _, put6_ext ((alloc_two w _ _).trans E.out) (by omega)⟩
     ·have hq : decide ((400 : Int) < (m : Int)) = false := by simp; omega
      have HR := hid (show R = (.mk 4 false [] nm rt l, 0) by rw [hR4, if_neg (by have := HMM.out; omega)])
      clear hR4 hm4
      go_wp2_with fail
      refine (HC.out _ ((alloc_two w _ _).trans E.out)).mono ?_
      rintro e w3 ⟨rfl, hx⟩
      replace E := hid (E.out.trans hx)
      obtain ⟨p0, p1, p2⟩ := box3 ((Ext.alloc _ _).trans E.out)
      obtain ⟨⟨r0, r1, r2, r3, r4, r5⟩, ⟨q0, q1, q2, q3, q4, q5⟩, hz⟩ := boxF6 ((Box.at_ (w := w.alloc (.cells #[str nm, .slice B0 n bc, .int .i64 rt] 24)) (g := w.heap.size + 1) zero6 33 (by simp)).up E.out)
      clear hx
      go_wp2_with fail
      refine bodyPost_ret (v := .tuple #[kv 4 false none 0 0 nm rt A n c, .int .i64 0]) (by simp [results, Tryz.results10, go_sem, r0, r1, r2, r3, r4, r5, hz]) rfl ?_
      rw [HR.out]
      have EF : Ext w (put6 w3 (w.heap.size + 1) (.int .i64 4) (.bool false) (.slice none 0 0) (str nm) (.int .i64 rt) (.slice A n c)) := put6_ext ((alloc_two w _ _).trans E.out) (by omega)
      refine ⟨_, rfl, ?_, EF⟩
      have := HT.out.up EF
      refine ⟨none, 0, 0, A, c, ?_, LNum.nil _, ?_⟩
      ·show kv 4 false none 0 0 nm rt A n c = kv 4 false none 0 0 nm rt A l.length c
       rw [HN.out]
      ·show Tms _ l (.slice A l.length c)
       rw [HN.out]; exact this
end Go.Proofs.YtaoboilkpgphaaaGreatDoor.Q

