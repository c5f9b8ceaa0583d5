/-
  Contracts of package term: how many nodes.
-/
import Derived.Test.YtkhmgdfhggejaaaGreatDoorWJKF
namespace Go.Proofs.YtkhmgdfhggejaaaGreatDoor.Q
set_option linter.unusedSimpArgs false
set_option linter.unusedVariables false
open Go.RowKit
theorem M.kcnt_kids (t : M.Tm) : M.kcnt t = 1 + M.kcnts t.kids := by rw [M.Tm.eta t, M.kcnt]; rfl
set_option maxHeartbeats 4000000 in
theorem counted_n : ∀ (N : Nat) {ks : List M.Tm} {v : Value} {m : Nat} {w : World}, M.kcnts ks < N → Tms w ks v → m ≤ 401 → Calls Tryz.prog 113 #[.int .i64 (m : Int), v] w (GivesI w ((min (m + M.kcnts ks) 401 : Nat) : Int)) := by
 intro N
 induction N with
 | zero => intro ks v m w h; omega
 | succ N ih =>
  intro ks v m w hN hk hm
  obtain ⟨A, c, rfl⟩ := hk.shape
  obtain ⟨hl1, hl2, hl4⟩ := hk.le
  obtain ⟨n, hn⟩ : ∃ n, ks.length = n := ⟨_, rfl⟩
  obtain ⟨z, hz⟩ : ∃ z, min (m + M.kcnts ks) 401 = z := ⟨_, rfl⟩
  rw [hz]
  rw [hn] at hk hl2 ⊢
  have HK := hid hk
  have IH := @hid _ @ih
  have HZ := hid (show z = min (m + M.kcnts (ks.take n)) 401 by rw [← hn, List.take_length, ← hz])
  have HNN := hid hN
  clear hk ih hn hl1 hz hN
  go_enter Tryz.func113, Tryz.ntmps113
  go_wp2_with fail
  go_loopw [0, 9] (fun x i wr => ∃ (k s : Nat), x = .int .i64 (s : Int) ∧ i = .int .i64 (k : Int) ∧ k ≤ n ∧ s ≤ 401 ∧ Hid (s = min (m + M.kcnts (ks.take k)) 401 ∧ Ext w wr)) (fun _ i _ => n - (intOf i).toNat)
  case atStart => exact ⟨0, m, rfl, rfl, Nat.zero_le _, hm, by simp [M.kcnts]; omega, Ext.refl _⟩
  case round =>
   obtain ⟨k, s, rfl, rfl, hk, hs, hR⟩ := hrel
   have E := hid hR.out.2
   have HS := hid hR.out.1
   clear hR
   rcases Nat.lt_or_ge k n with hlt | hge
   ·have hlt' : (k : Int) < (n : Int) := by omega
    obtain ⟨ad, u, N', nn', nc', B, d, rfl, hu, ⟨c0, c1, c2, c3, c4, c5⟩, hv⟩ := (HK.out.up E.out).get hlt
    have HU := hid hu
    rcases Nat.lt_or_ge 400 s with h4 | h4
    ·have hq : 400 < (s : Int) := by omega
     clear hu hv
     go_wp2
     go_ret
     obtain rfl : s = z := by
      have h1 := HS.out
      have h2 := HZ.out
      have h3 := M.kcnts_take_le (ks.take n) k
      rw [List.take_take, Nat.min_eq_left (by omega)] at h3
      omega
     exact ⟨rfl, E.out.alloc' _⟩
    ·have hq : decide (400 < (s : Int)) = false := by simp; omega
     obtain ⟨y, hy⟩ : ∃ y, s + 1 = y := ⟨_, rfl⟩
     have hsi : (s : Int) + 1 = (y : Int) := by omega
     obtain ⟨q, hqq⟩ : ∃ q, min (y + M.kcnts u.kids) 401 = q := ⟨_, rfl⟩
     have HQ := hid (show q = min (s + M.kcnt u) 401 by rw [← hqq, ← hy, M.kcnt_kids u]; omega)
     have hkd := hv.num.2
     have HC := hid (show ∀ w', Ext wr w' → Calls Tryz.prog 113 #[.int .i64 (y : Int), .slice B u.kids.length d] w' (GivesI w' (q : Int)) from fun w' e => by
      rw [← hqq]
      refine IH.out ?_ (hkd.up e) (by omega)
      have h1 := M.kcnts_at HU.out
      have h3 := HNN.out
      have h4 := M.kcnt_kids u
      omega)
     have hq9 : q ≤ 401 := by omega
     clear hu hv hkd hy hqq
     go_wp2_with (go_at_call 113; refine (HC.out _ (Ext.alloc _ _)).mono ?_; rintro e w' ⟨rfl, hb⟩; replace E := hid ((E.out.alloc' _).trans hb); clear hb)
     go_roundw
     case rel => exact ⟨k + 1, q, rfl, by simp, by omega, hq9, by
      have h1 := HS.out
      have h2 := HQ.out
      rw [M.kcnts_take HU.out]; omega, E.out⟩
     case measure => simp [intOf]; omega
   ·obtain rfl : k = n := by omega
    go_wp2
    go_ret
    obtain rfl : s = z := by rw [HS.out, HZ.out]
    exact ⟨rfl, E.out⟩
theorem counted_any {ks : List M.Tm} {v : Value} {m : Nat} {w : World} (h : Tms w ks v) (hm : m ≤ 401) : Calls Tryz.prog 113 #[.int .i64 (m : Int), v] w (GivesI w ((min (m + M.kcnts ks) 401 : Nat) : Int)) :=
 counted_n (M.kcnts ks + 1) (Nat.lt_succ_self _) h hm
theorem count_t (t : M.Tm) {v : Value} {w : World} (h : IsTm w t v) : Calls Tryz.prog 90 #[v] w (GivesI w ((min (M.kcnt t) 401 : Nat) : Int)) := by
 obtain ⟨N, nn, nc, A, n, c, rfl, -, -, -, -, -, -⟩ := h.shape
 obtain ⟨op, hop⟩ : ∃ x, t.op = x := ⟨_, rfl⟩
 obtain ⟨g, hg⟩ : ∃ x, t.g = x := ⟨_, rfl⟩
 obtain ⟨nm, hnm⟩ : ∃ x, t.name = x := ⟨_, rfl⟩
 obtain ⟨so, hso⟩ : ∃ x, t.sort = x := ⟨_, rfl⟩
 rw [hop, hg, hnm, hso] at h ⊢
 have hK : Tms (kboxed (kboxed w op g N nn nc nm so A n c) op g N nn nc nm so A n c) [t] (.slice (some ⟨w.heap.size + 1, 0, none⟩) 1 1) := by
  have := tms_one (h.up ((Ext.alloc w (.cells #[.int .i64 op, .bool g, .slice N nn nc, str nm, .int .i64 so, .slice A n c] 27)).alloc' (.cells #[.int .i64 op, .bool g, .slice N nn nc, str nm, .int .i64 so, .slice A n c] 27))) (Box.new _ _ _)
  rwa [show (kboxed w op g N nn nc nm so A n c).heap.size = w.heap.size + 1 by simp] at this
 obtain ⟨z, hz⟩ : ∃ z, min (M.kcnt t) 401 = z := ⟨_, rfl⟩
 have H := hid (show Calls Tryz.prog 113 #[.int .i64 0, .slice (some ⟨w.heap.size + 1, 0, none⟩) 1 1] (kboxed (kboxed w op g N nn nc nm so A n c) op g N nn nc nm so A n c) (GivesI (kboxed (kboxed w op g N nn nc nm so A n c) op g N nn nc nm so A n c) (z : Int)) by
  have := counted_any (m := 0) hK (by omega)
  rw [show M.kcnts [t] = M.kcnt t by simp [M.kcnts], Nat.zero_add, hz] at this
  exact this)
 rw [hz]
 clear h hop hg hnm hso hK hz
 go_enter Tryz.func90, Tryz.ntmps90
 go_wp2_with fail
 refine H.out.mono ?_
 rintro e w' ⟨rfl, hb⟩
 have E := hid hb
 clear hb
 go_wp2
 go_ret
 exact ⟨rfl, ((Ext.alloc w _).alloc' _).trans E.out⟩
theorem equalI_n {u v : Value} {l m : List Int} {w : World} (hu : Ints w l u) (hv : Ints w m v) :
 Calls Tryz.prog 110 #[u, v] w (GivesB w (decide (l = m))) := by
 obtain ⟨A, c, rfl⟩ := hu.shape
 obtain ⟨A', c', rfl⟩ := hv.shape
 obtain ⟨hl1, hl2, hl3⟩ := hu.le
 obtain ⟨n, hn⟩ : ∃ n, l.length = n := ⟨_, rfl⟩
 obtain ⟨n', hn'⟩ : ∃ n', m.length = n' := ⟨_, rfl⟩
 rw [hn] at hu hl2 ⊢
 rw [hn'] at hv ⊢
 have HR := hid hu
 have HR' := hid hv
 have HN := hid hn
 have HN' := hid hn'
 have hb : n ≤ 9223372036854775807 := by omega
 clear hu hv hn hn' hl1 hl2 hl3
 by_cases hnn : n = n'
 ·subst hnn
  go_enter Tryz.func110, Tryz.ntmps110
  go_wp2
  go_loopw [13] (fun i wr => ∃ k p : Nat, k ≤ n ∧ i = .int .i64 k ∧ wr = w.drewN p ∧ l.take k = m.take k) (fun i _ => n - (intOf i).toNat)
  case atStart => exact ⟨0, 0, Nat.zero_le _, rfl, rfl, rfl⟩
  case round =>
   obtain ⟨k, p, hk, rfl, rfl, he⟩ := hrel
   have HE := hid he
   clear he
   by_cases hlt : k < n
   ·obtain ⟨ad, x, rfl, hX, hcell⟩ := HR.out.get hlt
    obtain ⟨ad', x', rfl, hX', hcell'⟩ := HR'.out.get hlt
    have HX := hid hX
    have HX' := hid hX'
    clear hX hX'
    by_cases hx : x = x'
    ·subst hx
     go_wp2
     go_quiet (fail)
     go_wp2
     go_roundw
     case rel => exact ⟨k + 1, p + nq, by omega, by go_num, rfl, by rw [List.take_add_one, List.take_add_one, HE.out, HX.out, HX'.out]⟩
     case measure => simp [intOf]; all_goals omega
    ·have hx' := hid hx
     have hne : (x != x') = true := by simpa using hx
     clear hx
     go_wp2
     go_quiet (fail)
     go_wp2
     go_ret
     refine ⟨ret_bool ?_, ((Ext.refl w).drewN' p).drewN' _⟩
     have : l ≠ m := by
      rintro rfl
      have := HX.out
      rw [HX'.out] at this
      injection this with this
      exact hx'.out this.symm
     exact (decide_eq_false this).symm
   ·obtain rfl : k = n := by omega
    go_wp2
    go_ret
    refine ⟨ret_bool ?_, (Ext.refl w).drewN' _⟩
    have h1 := HE.out
    rw [← HN.out, List.take_length] at h1
    rw [HN.out, ← HN'.out, List.take_length] at h1
    exact (decide_eq_true h1).symm
 ·have hq : ((n : Int) == (n' : Int)) = false := by simp; omega
  have hne : l ≠ m := by rintro rfl; exact hnn (HN.out.symm.trans HN'.out)
  rw [decide_eq_false hne]
  go_enter Tryz.func110, Tryz.ntmps110
  go_wp2
  go_ret
  exact ⟨rfl, Ext.refl _⟩
theorem equalU_n {u v : Value} {l m : List Nat} {w : World} (hu : LNum w u l) (hv : LNum w v m) :
 Calls Tryz.prog 160 #[u, v] w (GivesB w (decide (l = m))) := by
 obtain ⟨A, n, c, rfl, hn, hc, hm, hs, hr⟩ := hu
 obtain ⟨A', n', c', rfl, hn', hc', hm', hs', hr'⟩ := hv
 have hb : n ≤ 9223372036854775807 := by unfold maxLen at hm; omega
 have HR := hid hr
 have HR' := hid hr'
 have HN := hid hn
 have HN' := hid hn'
 clear hr hn hs hm hr' hn' hs' hm' hc hc'
 by_cases hnn : n = n'
 ·subst hnn
  go_enter Tryz.func160, Tryz.ntmps160
  go_wp2
  go_loopw [13] (fun i wr => ∃ k p : Nat, k ≤ n ∧ i = .int .i64 k ∧ wr = w.drewN p ∧ l.take k = m.take k) (fun i _ => n - (intOf i).toNat)
  case atStart => exact ⟨0, 0, Nat.zero_le _, rfl, rfl, rfl⟩
  case round =>
   obtain ⟨k, p, hk, rfl, rfl, he⟩ := hrel
   have HE := hid he
   clear he
   by_cases hlt : k < n
   ·obtain ⟨ad, x, rfl, _, HX, hcell⟩ := HR.out.get (k := k) (by rw [← HN.out]; exact hlt)
    obtain ⟨ad', x', rfl, _, HX', hcell'⟩ := HR'.out.get (k := k) (by rw [← HN'.out]; exact hlt)
    by_cases hx : x = x'
    ·subst hx
     go_wp2
     go_quiet (fail)
     go_wp2
     go_roundw
     case rel => exact ⟨k + 1, p + nq, by omega, by go_num, rfl, by rw [List.take_add_one, List.take_add_one, HE.out, HX.out, HX'.out]⟩
     case measure => simp [intOf]; all_goals omega
    ·have hx' := hid hx
     have hne : ((x : Int) != (x' : Int)) = true := by simpa using (by omega : ¬ (x : Int) = x')
     clear hx
     go_wp2
     go_quiet (fail)
     go_wp2
     go_ret
     refine ⟨ret_bool ?_, ((Ext.refl w).drewN' p).drewN' _⟩
     have : l ≠ m := by
      rintro rfl
      have := HX.out
      rw [HX'.out] at this
      injection this with this
      exact hx'.out this.symm
     exact (decide_eq_false this).symm
   ·obtain rfl : k = n := by omega
    go_wp2
    go_ret
    refine ⟨ret_bool ?_, (Ext.refl w).drewN' _⟩
    have h1 := HE.out
    rw [HN.out, List.take_length] at h1
    rw [← HN.out, HN'.out, List.take_length] at h1
    exact (decide_eq_true h1).symm
 ·have hq : ((n : Int) == (n' : Int)) = false := by simp; omega
  have hne : l ≠ m := by rintro rfl; exact hnn (HN.out.trans HN'.out.symm)
  rw [decide_eq_false hne]
  go_enter Tryz.func160, Tryz.ntmps160
  go_wp2
  go_ret
  exact ⟨rfl, Ext.refl _⟩
theorem dec_eqI (a b : Int) : (a == b) = decide (a = b) := by
 by_cases h : a = b <;> simp [h]
set_option maxHeartbeats 4000000 in
theorem sameHead_n {op op' : Int} {g g' : Bool} {N N' A A' : Option Addr} {nn nc n c nn' nc' n' c' : Nat} {nm nm' : List UInt8} {so so' : Int} {ls ls' : List Nat} {w : World} (hn : LNum w (.slice N nn nc) ls) (hn' : LNum w (.slice N' nn' nc') ls') :
 Calls Tryz.prog 135 #[kv op g N nn nc nm so A n c, kv op' g' N' nn' nc' nm' so' A' n' c'] w (GivesB w (decide (op = op') && (decide (g = g' ∧ ls = ls') && (decide (nm = nm') && decide (so = so'))))) := by
 by_cases h1 : op = op'
 case neg =>
  have hb : (op == op') = false := by simpa using h1
  rw [decide_eq_false h1, Bool.false_and]
  clear h1 hn hn'
  go_enter Tryz.func135, Tryz.ntmps135
  go_wp2
  go_ret
  exact ⟨rfl, (Ext.alloc w _).alloc' _⟩
 case pos =>
 subst h1
 rw [decide_eq_true rfl, Bool.true_and]
 by_cases h2 : g = g'
 case neg =>
  have hb : (g == g') = false := by cases g <;> cases g' <;> simp at h2 ⊢
  rw [show decide (g = g' ∧ ls = ls') = false by simp [h2], Bool.false_and]
  clear h2 hn hn'
  go_enter Tryz.func135, Tryz.ntmps135
  cases g <;> cases g' <;> simp at hb <;> clear hb <;> (
   go_wp2
   go_ret
   exact ⟨rfl, (Ext.alloc w _).alloc' _⟩)
 case pos =>
 subst h2
 rw [show decide (g = g ∧ ls = ls') = decide (ls = ls') by simp]
 have HC := hid (show ∀ w', Ext w w' → Calls Tryz.prog 160 #[.slice N nn nc, .slice N' nn' nc'] w' (GivesB w' (decide (ls = ls'))) from fun w' e => equalU_n (hn.up e) (hn'.up e))
 obtain ⟨q, hq⟩ : ∃ q, decide (ls = ls') = q := ⟨_, rfl⟩
 rw [hq] at HC ⊢
 clear hn hn' hq
 have HB1 := hid (show Box ((w.alloc (.cells #[.int .i64 op, .bool g, .slice N nn nc, str nm, .int .i64 so, .slice A n c] 27)).alloc (.cells #[.int .i64 op, .bool g, .slice N' nn' nc', str nm', .int .i64 so', .slice A' n' c'] 27)) w.heap.size #[.int .i64 op, .bool g, .slice N nn nc, str nm, .int .i64 so, .slice A n c] 27 from (Box.new w _ _).alloc _)
 have HB2 := hid (show Box ((w.alloc (.cells #[.int .i64 op, .bool g, .slice N nn nc, str nm, .int .i64 so, .slice A n c] 27)).alloc (.cells #[.int .i64 op, .bool g, .slice N' nn' nc', str nm', .int .i64 so', .slice A' n' c'] 27)) (w.heap.size + 1) #[.int .i64 op, .bool g, .slice N' nn' nc', str nm', .int .i64 so', .slice A' n' c'] 27 from Box.at_ (w := w.alloc (.cells #[.int .i64 op, .bool g, .slice N nn nc, str nm, .int .i64 so, .slice A n c] 27)) _ _ (by simp))
 cases q
 ·rw [Bool.false_and]
  cases g <;> (
   go_enter Tryz.func135, Tryz.ntmps135
   go_wp2_with fail
   refine (HC.out _ (alloc_two w _ _)).mono ?_
   rintro e w' ⟨rfl, hb⟩
   go_wp2
   go_ret
   exact ⟨rfl, (alloc_two w _ _).trans hb⟩)
 ·rw [Bool.true_and]
  by_cases h3 : nm = nm'
  case neg =>
   rw [decide_eq_false h3, Bool.false_and]
   cases g <;> (
    go_enter Tryz.func135, Tryz.ntmps135
    go_wp2_with fail
    refine (HC.out _ (alloc_two w _ _)).mono ?_
    rintro e w' ⟨rfl, hb⟩
    obtain ⟨⟨a0, a1, a2, a3, a4, a5⟩, -, -⟩ := boxF6 (HB1.out.up hb)
    obtain ⟨⟨b0, b1, b2, b3, b4, b5⟩, -, -⟩ := boxF6 (HB2.out.up hb)
    have E := hid hb
    clear hb
    go_wp2
    go_ret
    exact ⟨rfl, (alloc_two w _ _).trans E.out⟩)
  case pos =>
  subst h3
  rw [decide_eq_true rfl, Bool.true_and]
  obtain ⟨q, hq⟩ : ∃ q, decide (so = so') = q := ⟨_, rfl⟩
  have hq2 : (so == so') = q := by rw [dec_eqI, hq]
  rw [hq]
  clear hq
  cases g <;> (
   go_enter Tryz.func135, Tryz.ntmps135
   go_wp2_with fail
   refine (HC.out _ (alloc_two w _ _)).mono ?_
   rintro e w' ⟨rfl, hb⟩
   obtain ⟨⟨a0, a1, a2, a3, a4, a5⟩, -, -⟩ := boxF6 (HB1.out.up hb)
   obtain ⟨⟨b0, b1, b2, b3, b4, b5⟩, -, -⟩ := boxF6 (HB2.out.up hb)
   have E := hid hb
   clear hb
   go_wp2
   go_ret
   exact ⟨rfl, (alloc_two w _ _).trans E.out⟩)
end Go.Proofs.YtkhmgdfhggejaaaGreatDoor.Q
