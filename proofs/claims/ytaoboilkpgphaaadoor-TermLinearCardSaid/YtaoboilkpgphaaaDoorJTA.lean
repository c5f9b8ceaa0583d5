/-
  Contracts of package term: how many nodes.
-/
import Derived.Test.YtaoboilkpgphaaaDoorJKA
import Derived.Test.YtaoboilkpgphaaaDoorJKF
import Derived.Test.YtaoboilkpgphaaaDoorJKB
import Derived.Test.YtaoboilkpgphaaaDoorJKC
namespace Go.Proofs.YtaoboilkpgphaaaDoor.Q
set_option linter.unusedSimpArgs false
set_option linter.unusedVariables false
open Go.RowKit

theorem M.kcnt_kids (t : M.Tm) : M.kcnt t = 1 + M.kcnts t.kids := by rw [M.Tm.eta t, M.kcnt]; rfl
set_option maxHeartbeats 4000000 in
theorem counted_n : ∀ (N : Nat) {ks : List M.Tm} {v : Value} {m : Nat} {w : World}, M.kcnts ks < N → Tms w ks v → m ≤ 401 → Calls Tryd.prog 36 #[.int .i64 (m : Int), v] w (GivesI w ((min (m + M.kcnts ks) 401 : Nat) : Int)) := by
 intro N
 induction N with
 | zero => intro ks v m w h; omega
 | succ N ih =>
  intro ks v m w hN hk hm
  obtain ⟨A, c, rfl⟩ := hk.shape
  obtain ⟨hl1, hl2, hl4⟩ := hk.le
  obtain ⟨n, hn⟩ : ∃ n, ks.length = n := ⟨_, rfl⟩
  obtain ⟨z, hz⟩ : ∃ z, min (m + M.kcnts ks) 401 = z := ⟨_, rfl⟩
  rw [hz]
  rw [hn] at hk hl2 ⊢
  have HK := hid hk
  have IH := @hid _ @ih
  have HZ := hid (show z = min (m + M.kcnts (ks.take n)) 401 by rw [← hn, List.take_length, ← hz])
  have HNN := hid hN
  clear hk ih hn hl1 hz hN
  go_enter Tryd.func36, Tryd.ntmps36
  go_wp2_with fail
  go_loopw [0, 9] (fun x i wr => ∃ (k s : Nat), x = .int .i64 (s : Int) ∧ i = .int .i64 (k : Int) ∧ k ≤ n ∧ s ≤ 401 ∧ Hid (s = min (m + M.kcnts (ks.take k)) 401 ∧ Ext w wr)) (fun _ i _ => n - (intOf i).toNat)
  case atStart => exact ⟨0, m, rfl, rfl, Nat.zero_le _, hm, by simp [M.kcnts]; omega, Ext.refl _⟩
  case round =>
   obtain ⟨k, s, rfl, rfl, hk, hs, hR⟩ := hrel
   have E := hid hR.out.2
   have HS := hid hR.out.1
   clear hR
   rcases Nat.lt_or_ge k n with hlt | hge
   ·have hlt' : (k : Int) < (n : Int) := by omega
    obtain ⟨ad, u, N', nn', nc', B, d, rfl, hu, ⟨c0, c1, c2, c3, c4, c5⟩, hv⟩ := (HK.out.up E.out).get hlt
    have HU := hid hu
    rcases Nat.lt_or_ge 400 s with h4 | h4
    ·have hq : 400 < (s : Int) := by omega
     clear hu hv
     go_wp2
     go_ret
     obtain rfl : s = z := by
      have h1 := HS.out
      have h2 := HZ.out
      have h3 := M.kcnts_take_le (ks.take n) k
      rw [List.take_take, Nat.min_eq_left (by omega)] at h3
      omega
     exact ⟨rfl, E.out.alloc' _⟩
    ·have hq : decide (400 < (s : Int)) = false := by simp; omega
     obtain ⟨y, hy⟩ : ∃ y, s + 1 = y := ⟨_, rfl⟩
     have hsi : (s : Int) + 1 = (y : Int) := by omega
     obtain ⟨q, hqq⟩ : ∃ q, min (y + M.kcnts u.kids) 401 = q := ⟨_, rfl⟩
     have HQ := hid (show q = min (s + M.kcnt u) 401 by rw [← hqq, ← hy, M.kcnt_kids u]; omega)
     have hkd := hv.num.2
     have HC := hid (show ∀ w', Ext wr w' → Calls Tryd.prog 36 #[.int .i64 (y : Int), .slice B u.kids.length d] w' (GivesI w' (q : Int)) from fun w' e => by
      rw [← hqq]
      refine IH.out ?_ (hkd.up e) (by omega)
      have h1 := M.kcnts_at HU.out
      have h3 := HNN.out
      have h4 := M.kcnt_kids u
      omega)
     have hq9 : q ≤ 401 := by omega
     clear hu hv hkd hy hqq
     go_wp2_with (go_at_call 36; refine (HC.out _ (Ext.alloc _ _)).mono ?_; rintro e w' ⟨rfl, hb⟩; replace E := hid ((E.out.alloc' _).trans hb); clear hb)
     go_roundw
     case rel => exact ⟨k + 1, q, rfl, by simp, by omega, hq9, by
      have h1 := HS.out
      have h2 := HQ.out
      rw [M.kcnts_take HU.out]; omega, E.out⟩
     case measure => simp [intOf]; omega
   ·obtain rfl : k = n := by omega
    go_wp2
    go_ret
    obtain rfl : s = z := by rw [HS.out, HZ.out]
    exact ⟨rfl, E.out⟩
theorem counted_any {ks : List M.Tm} {v : Value} {m : Nat} {w : World} (h : Tms w ks v) (hm : m ≤ 401) : Calls Tryd.prog 36 #[.int .i64 (m : Int), v] w (GivesI w ((min (m + M.kcnts ks) 401 : Nat) : Int)) :=
 counted_n (M.kcnts ks + 1) (Nat.lt_succ_self _) h hm
theorem count_t (t : M.Tm) {v : Value} {w : World} (h : IsTm w t v) : Calls Tryd.prog 14 #[v] w (GivesI w ((min (M.kcnt t) 401 : Nat) : Int)) := by
 obtain ⟨N, nn, nc, A, n, c, rfl, -, -, -, -, -, -⟩ := h.shape
 obtain ⟨op, hop⟩ : ∃ x, t.op = x := ⟨_, rfl⟩
 obtain ⟨g, hg⟩ : ∃ x, t.g = x := ⟨_, rfl⟩
 obtain ⟨nm, hnm⟩ : ∃ x, t.name = x := ⟨_, rfl⟩
 obtain ⟨so, hso⟩ : ∃ x, t.sort = x := ⟨_, rfl⟩
 rw [hop, hg, hnm, hso] at h ⊢
 have hK : Tms (kboxed (kboxed w op g N nn nc nm so A n c) op g N nn nc nm so A n c) [t] (.slice (some ⟨w.heap.size + 1, 0, none⟩) 1 1) := by
  have := tms_one (h.up ((Ext.alloc w (.cells #[.int .i64 op, .bool g, .slice N nn nc, str nm, .int .i64 so, .slice A n c] 27)).alloc' (.cells #[.int .i64 op, .bool g, .slice N nn nc, str nm, .int .i64 so, .slice A n c] 27))) (Box.new _ _ _)
  rwa [show (kboxed w op g N nn nc nm so A n c).heap.size = w.heap.size + 1 by simp] at this
 obtain ⟨z, hz⟩ : ∃ z, min (M.kcnt t) 401 = z := ⟨_, rfl⟩
 have H := hid (show Calls Tryd.prog 36 #[.int .i64 0, .slice (some ⟨w.heap.size + 1, 0, none⟩) 1 1] (kboxed (kboxed w op g N nn nc nm so A n c) op g N nn nc nm so A n c) (GivesI (kboxed (kboxed w op g N nn nc nm so A n c) op g N nn nc nm so A n c) (z : Int)) by
  have := counted_any (m := 0) hK (by omega)
  rw [show M.kcnts [t] = M.kcnt t by simp [M.kcnts], Nat.zero_add, hz] at this
  exact this)
 rw [hz]
 clear h hop hg hnm hso hK hz
 go_enter Tryd.func14, Tryd.ntmps14
 go_wp2_with fail
 refine H.out.mono ?_
 rintro e w' ⟨rfl, hb⟩
 have E := hid hb
 clear hb
 go_wp2
 go_ret
 exact ⟨rfl, ((Ext.alloc w _).alloc' _).trans E.out⟩
end Go.Proofs.YtaoboilkpgphaaaDoor.Q

/-
  Contracts of package term: rows of limbs, of sorts that are the same; terms that are the same.
-/
namespace Go.Proofs.YtaoboilkpgphaaaDoor.Q
set_option linter.unusedSimpArgs false
set_option linter.unusedVariables false
open Go.RowKit

theorem equalU_n {u v : Value} {l m : List Nat} {w : World} (hu : LNum w u l) (hv : LNum w v m) :
 Calls Tryd.prog 69 #[u, v] w (GivesB w (decide (l = m))) := by
 obtain ⟨A, n, c, rfl, hn, hc, hm, hs, hr⟩ := hu
 obtain ⟨A', n', c', rfl, hn', hc', hm', hs', hr'⟩ := hv
 have hb : n ≤ 9223372036854775807 := by unfold maxLen at hm; omega
 have HR := hid hr
 have HR' := hid hr'
 have HN := hid hn
 have HN' := hid hn'
 clear hr hn hs hm hr' hn' hs' hm' hc hc'
 by_cases hnn : n = n'
 ·subst hnn
  go_enter Tryd.func69, Tryd.ntmps69
  go_wp2
  go_loopw [13] (fun i wr => ∃ k p : Nat, k ≤ n ∧ i = .int .i64 k ∧ wr = w.drewN p ∧ l.take k = m.take k) (fun i _ => n - (intOf i).toNat)
  case atStart => exact ⟨0, 0, Nat.zero_le _, rfl, rfl, rfl⟩
  case round =>
   obtain ⟨k, p, hk, rfl, rfl, he⟩ := hrel
   have HE := hid he
   clear he
   by_cases hlt : k < n
   ·obtain ⟨ad, x, rfl, _, HX, hcell⟩ := HR.out.get (k := k) (by rw [← HN.out]; exact hlt)
    obtain ⟨ad', x', rfl, _, HX', hcell'⟩ := HR'.out.get (k := k) (by rw [← HN'.out]; exact hlt)
    by_cases hx : x = x'
    ·subst hx
     go_wp2
     go_quiet (fail)
     go_wp2
     go_roundw
     case rel => exact ⟨k + 1, p + nq, by omega, by go_num, rfl, by rw [List.take_add_one, List.take_add_one, HE.out, HX.out, HX'.out]⟩
     case measure => simp [intOf]; all_goals omega
    ·have hx' := hid hx
     have hne : ((x : Int) != (x' : Int)) = true := by simpa using (by omega : ¬ (x : Int) = x')
     clear hx
     go_wp2
     go_quiet (fail)
     go_wp2
     go_ret
     refine ⟨ret_bool ?_, ((Ext.refl w).drewN' p).drewN' _⟩
     have : l ≠ m := by
      rintro rfl
      have := HX.out
      rw [HX'.out] at this
      injection this with this
      exact hx'.out this.symm
     exact (decide_eq_false this).symm
   ·obtain rfl : k = n := by omega
    go_wp2
    go_ret
    refine ⟨ret_bool ?_, (Ext.refl w).drewN' _⟩
    have h1 := HE.out
    rw [HN.out, List.take_length] at h1
    rw [← HN.out, HN'.out, List.take_length] at h1
    exact (decide_eq_true h1).symm
 ·have hq : ((n : Int) == (n' : Int)) = false := by simp; omega
  have hne : l ≠ m := by rintro rfl; exact hnn (HN.out.trans HN'.out.symm)
  rw [decide_eq_false hne]
  go_enter Tryd.func69, Tryd.ntmps69
  go_wp2
  go_ret
  exact ⟨rfl, Ext.refl _⟩
theorem equalI_n {u v : Value} {l m : List Int} {w : World} (hu : Ints w l u) (hv : Ints w m v) :
 Calls Tryd.prog 52 #[u, v] w (GivesB w (decide (l = m))) := by
 obtain ⟨A, c, rfl⟩ := hu.shape
 obtain ⟨A', c', rfl⟩ := hv.shape
 obtain ⟨hl1, hl2, hl3⟩ := hu.le
 obtain ⟨n, hn⟩ : ∃ n, l.length = n := ⟨_, rfl⟩
 obtain ⟨n', hn'⟩ : ∃ n', m.length = n' := ⟨_, rfl⟩
 rw [hn] at hu hl2 ⊢
 rw [hn'] at hv ⊢
 have HR := hid hu
 have HR' := hid hv
 have HN := hid hn
 have HN' := hid hn'
 have hb : n ≤ 9223372036854775807 := by omega
 clear hu hv hn hn' hl1 hl2 hl3
 by_cases hnn : n = n'
 ·subst hnn
  go_enter Tryd.func52, Tryd.ntmps52
  go_wp2
  go_loopw [13] (fun i wr => ∃ k p : Nat, k ≤ n ∧ i = .int .i64 k ∧ wr = w.drewN p ∧ l.take k = m.take k) (fun i _ => n - (intOf i).toNat)
  case atStart => exact ⟨0, 0, Nat.zero_le _, rfl, rfl, rfl⟩
  case round =>
   obtain ⟨k, p, hk, rfl, rfl, he⟩ := hrel
   have HE := hid he
   clear he
   by_cases hlt : k < n
   ·obtain ⟨ad, x, rfl, hX, hcell⟩ := HR.out.get hlt
    obtain ⟨ad', x', rfl, hX', hcell'⟩ := HR'.out.get hlt
    have HX := hid hX
    have HX' := hid hX'
    clear hX hX'
    by_cases hx : x = x'
    ·subst hx
     go_wp2
     go_quiet (fail)
     go_wp2
     go_roundw
     case rel => exact ⟨k + 1, p + nq, by omega, by go_num, rfl, by rw [List.take_add_one, List.take_add_one, HE.out, HX.out, HX'.out]⟩
     case measure => simp [intOf]; all_goals omega
    ·have hx' := hid hx
     have hne : (x != x') = true := by simpa using hx
     clear hx
     go_wp2
     go_quiet (fail)
     go_wp2
     go_ret
     refine ⟨ret_bool ?_, ((Ext.refl w).drewN' p).drewN' _⟩
     have : l ≠ m := by
      rintro rfl
      have := HX.out
      rw [HX'.out] at this
      injection this with this
      exact hx'.out this.symm
     exact (decide_eq_false this).symm
   ·obtain rfl : k = n := by omega
    go_wp2
    go_ret
    refine ⟨ret_bool ?_, (Ext.refl w).drewN' _⟩
    have h1 := HE.out
    rw [← HN.out, List.take_length] at h1
    rw [HN.out, ← HN'.out, List.take_length] at h1
    exact (decide_eq_true h1).symm
 ·have hq : ((n : Int) == (n' : Int)) = false := by simp; omega
  have hne : l ≠ m := by rintro rfl; exact hnn (HN.out.symm.trans HN'.out)
  rw [decide_eq_false hne]
  go_enter Tryd.func52, Tryd.ntmps52
  go_wp2
  go_ret
  exact ⟨rfl, Ext.refl _⟩
theorem dec_eqI (a b : Int) : (a == b) = decide (a = b) := by
 by_cases h : a = b <;> simp [h]
set_option maxHeartbeats 4000000 in
theorem sameHead_n {op op' : Int} {g g' : Bool} {N N' A A' : Option Addr} {nn nc n c nn' nc' n' c' : Nat} {nm nm' : List UInt8} {so so' : Int} {ls ls' : List Nat} {w : World} (hn : LNum w (.slice N nn nc) ls) (hn' : LNum w (.slice N' nn' nc') ls') :
 Calls Tryd.prog 38 #[kv op g N nn nc nm so A n c, kv op' g' N' nn' nc' nm' so' A' n' c'] w (GivesB w (decide (op = op') && (decide (g = g' ∧ ls = ls') && (decide (nm = nm') && decide (so = so'))))) := by
 by_cases h1 : op = op'
 case neg =>
  have hb : (op == op') = false := by simpa using h1
  rw [decide_eq_false h1, Bool.false_and]
  clear h1 hn hn'
  go_enter Tryd.func38, Tryd.ntmps38
  go_wp2
  go_ret
  exact ⟨rfl, (Ext.alloc w _).alloc' _⟩
 case pos =>
 subst h1
 rw [decide_eq_true rfl, Bool.true_and]
 by_cases h2 : g = g'
 case neg =>
  have hb : (g == g') = false := by cases g <;> cases g' <;> simp at h2 ⊢
  rw [show decide (g = g' ∧ ls = ls') = false by simp [h2], Bool.false_and]
  clear h2 hn hn'
  go_enter Tryd.func38, Tryd.ntmps38
  cases g <;> cases g' <;> simp at hb <;> clear hb <;> (
   go_wp2
   go_ret
   exact ⟨rfl, (Ext.alloc w _).alloc' _⟩)
 case pos =>
 subst h2
 rw [show decide (g = g ∧ ls = ls') = decide (ls = ls') by simp]
 have HC := hid (show ∀ w', Ext w w' → Calls Tryd.prog 69 #[.slice N nn nc, .slice N' nn' nc'] w' (GivesB w' (decide (ls = ls'))) from fun w' e => equalU_n (hn.up e) (hn'.up e))
 obtain ⟨q, hq⟩ : ∃ q, decide (ls = ls') = q := ⟨_, rfl⟩
 rw [hq] at HC ⊢
 clear hn hn' hq
 have HB1 := hid (show Box ((w.alloc (.cells #[.int .i64 op, .bool g, .slice N nn nc, str nm, .int .i64 so, .slice A n c] 27)).alloc (.cells #[.int .i64 op, .bool g, .slice N' nn' nc', str nm', .int .i64 so', .slice A' n' c'] 27)) w.heap.size #[.int .i64 op, .bool g, .slice N nn nc, str nm, .int .i64 so, .slice A n c] 27 from (Box.new w _ _).alloc _)
 have HB2 := hid (show Box ((w.alloc (.cells #[.int .i64 op, .bool g, .slice N nn nc, str nm, .int .i64 so, .slice A n c] 27)).alloc (.cells #[.int .i64 op, .bool g, .slice N' nn' nc', str nm', .int .i64 so', .slice A' n' c'] 27)) (w.heap.size + 1) #[.int .i64 op, .bool g, .slice N' nn' nc', str nm', .int .i64 so', .slice A' n' c'] 27 from Box.at_ (w := w.alloc (.cells #[.int .i64 op, .bool g, .slice N nn nc, str nm, .int .i64 so, .slice A n c] 27)) _ _ (by simp))
 cases q
 ·rw [Bool.false_and]
  cases g <;> (
   go_enter Tryd.func38, Tryd.ntmps38
   go_wp2_with fail
   refine (HC.out _ (alloc_two w _ _)).mono ?_
   rintro e w' ⟨rfl, hb⟩
   go_wp2
   go_ret
   exact ⟨rfl, (alloc_two w _ _).trans hb⟩)
 ·rw [Bool.true_and]
  by_cases h3 : nm = nm'
  case neg =>
   rw [decide_eq_false h3, Bool.false_and]
   cases g <;> (
    go_enter Tryd.func38, Tryd.ntmps38
    go_wp2_with fail
    refine (HC.out _ (alloc_two w _ _)).mono ?_
    rintro e w' ⟨rfl, hb⟩
    obtain ⟨⟨a0, a1, a2, a3, a4, a5⟩, -, -⟩ := boxF6 (HB1.out.up hb)
    obtain ⟨⟨b0, b1, b2, b3, b4, b5⟩, -, -⟩ := boxF6 (HB2.out.up hb)
    have E := hid hb
    clear hb
    go_wp2
    go_ret
    exact ⟨rfl, (alloc_two w _ _).trans E.out⟩)
  case pos =>
  subst h3
  rw [decide_eq_true rfl, Bool.true_and]
  obtain ⟨q, hq⟩ : ∃ q, decide (so = so') = q := ⟨_, rfl⟩
  have hq2 : (so == so') = q := by rw [dec_eqI, hq]
  rw [hq]
  clear hq
  cases g <;> (
   go_enter Tryd.func38, Tryd.ntmps38
   go_wp2_with fail
   refine (HC.out _ (alloc_two w _ _)).mono ?_
   rintro e w' ⟨rfl, hb⟩
   obtain ⟨⟨a0, a1, a2, a3, a4, a5⟩, -, -⟩ := boxF6 (HB1.out.up hb)
   obtain ⟨⟨b0, b1, b2, b3, b4, b5⟩, -, -⟩ := boxF6 (HB2.out.up hb)
   have E := hid hb
   clear hb
   go_wp2
   go_ret
   exact ⟨rfl, (alloc_two w _ _).trans E.out⟩)
end Go.Proofs.YtaoboilkpgphaaaDoor.Q

/-
  Contracts of package term: whether two terms are the same.
-/
namespace Go.Proofs.YtaoboilkpgphaaaDoor.Q
set_option linter.unusedSimpArgs false
set_option linter.unusedVariables false
open Go.RowKit

/-- The function's own value. -/
abbrev sameFun : Value := .func (.func 16) #[] #[]
set_option maxHeartbeats 8000000 in
theorem equalF_t {ks ks' : List M.Tm} (ih : ∀ (k : Nat) (t : M.Tm), ks[k]? = some t → ∀ {t' : M.Tm} {v v' : Value} {w : World}, IsTm w t v → IsTm w t' v' → Calls Tryd.prog 16 #[v, v'] w (GivesB w (M.ksame t t')))
 {v v' : Value} {w : World} (hk : Tms w ks v) (hk' : Tms w ks' v') : Calls Tryd.prog 39 #[v, v', sameFun] w (GivesB w (decide (ks.length = ks'.length) && M.ksames ks ks')) := by
 obtain ⟨A, c, rfl⟩ := hk.shape
 obtain ⟨A', c', rfl⟩ := hk'.shape
 obtain ⟨hl1, hl2, hl4⟩ := hk.le
 obtain ⟨hm1, hm2, hm4⟩ := hk'.le
 obtain ⟨n, hn⟩ : ∃ n, ks.length = n := ⟨_, rfl⟩
 obtain ⟨n', hn'⟩ : ∃ n', ks'.length = n' := ⟨_, rfl⟩
 obtain ⟨z, hz⟩ : ∃ z, (decide (ks.length = ks'.length) && M.ksames ks ks') = z := ⟨_, rfl⟩
 have hz' : z = (decide (n = n') && M.ksames ks ks') := by rw [← hz, ← hn, ← hn']
 rw [hz]
 rw [hn] at hk hl2 ⊢
 rw [hn'] at hk' hm2 ⊢
 have HN := hid hn
 clear hl1 hz hn hm1 hn'
 by_cases hnn : n = n'
 case neg =>
  have HZ := hid (show false = z by rw [hz', decide_eq_false hnn, Bool.false_and])
  have hq : ((n : Int) == (n' : Int)) = false := by simp; omega
  clear hk hz' hk' hnn ih
  go_enter Tryd.func39, Tryd.ntmps39
  go_wp2
  go_ret
  obtain rfl := HZ.out
  exact ⟨rfl, Ext.refl _⟩
 case pos =>
 subst hnn
 have HZ := hid (show z = M.ksames ks ks' by rw [hz', decide_eq_true rfl, Bool.true_and])
 have HK := hid hk
 have HK' := hid hk'
 have IH := @hid _ @ih
 clear hk hz' hk' ih
 go_enter Tryd.func39, Tryd.ntmps39
 go_wp2_with fail
 go_loopw [17] (fun i wr => ∃ (k : Nat), i = .int .i64 (k : Int) ∧ k ≤ n ∧ Hid (M.ksames (ks.take k) ks' = true ∧ Ext w wr)) (fun i _ => n - (intOf i).toNat)
 case atStart => exact ⟨0, rfl, Nat.zero_le _, by simp [M.ksames], Ext.refl _⟩
 case round =>
  obtain ⟨k, rfl, hk, hR⟩ := hrel
  have E := hid hR.out.2
  have HS := hid hR.out.1
  clear hR
  rcases Nat.lt_or_ge k n with hlt | hge
  ·have hlt' : (k : Int) < (n : Int) := by omega
   obtain ⟨ad, u, N1, nn1, nc1, B, d, rfl, hu, ⟨c0, c1, c2, c3, c4, c5⟩, hv⟩ := (HK.out.up E.out).get hlt
   obtain ⟨ad', u', N2, nn2, nc2, B', d', rfl, hu', ⟨e0, e1, e2, e3, e4, e5⟩, hv'⟩ := (HK'.out.up E.out).get hlt
   have f0 := fun o => (Ext.alloc wr o).cell e0
   have f1 := fun o => (Ext.alloc wr o).cell e1
   have f2 := fun o => (Ext.alloc wr o).cell e2
   have f3 := fun o => (Ext.alloc wr o).cell e3
   have f4 := fun o => (Ext.alloc wr o).cell e4
   have f5 := fun o => (Ext.alloc wr o).cell e5
   have HU := hid hu
   have HU' := hid hu'
   have HV := hid hv
   have HV' := hid hv'
   have HC := hid (fun (w' : World) (e : Ext wr w') => IH.out k u HU.out (HV.out.up e) (HV'.out.up e))
   obtain ⟨q, hq⟩ : ∃ q, M.ksame u u' = q := ⟨_, rfl⟩
   have HQ := hid hq
   rw [hq] at HC
   clear hu hv hu' hv' hq
   cases q
   ·go_wp2_with (go_at_call 16; refine (HC.out _ (alloc_two _ _ _)).mono ?_; rintro e w' ⟨rfl, hb⟩; replace E := hid ((E.out.trans (alloc_two _ _ _)).trans hb); clear hb)
    go_ret
    obtain rfl : false = z := by rw [HZ.out, M.not_ksames HU.out HU'.out HQ.out]
    exact ⟨rfl, E.out⟩
   ·go_wp2_with (go_at_call 16; refine (HC.out _ (alloc_two _ _ _)).mono ?_; rintro e w' ⟨rfl, hb⟩; replace E := hid ((E.out.trans (alloc_two _ _ _)).trans hb); clear hb)
    go_roundw
    case rel => exact ⟨k + 1, by simp, by omega, by rw [M.ksames_take HU.out HU'.out, HS.out, HQ.out]; rfl, E.out⟩
    case measure => simp [intOf]; omega
  ·obtain rfl : k = n := by omega
   go_wp2
   go_ret
   obtain rfl : true = z := by rw [HZ.out, ← HS.out, ← HN.out, List.take_length]
   exact ⟨rfl, E.out⟩
set_option maxHeartbeats 8000000 in
theorem same_t (t : M.Tm) : ∀ {t' : M.Tm} {v v' : Value} {w : World}, IsTm w t v → IsTm w t' v' → Calls Tryd.prog 16 #[v, v'] w (GivesB w (M.ksame t t')) := by
 refine M.Tm.indA (P := fun t => ∀ {t' : M.Tm} {v v' : Value} {w : World}, IsTm w t v → IsTm w t' v' → Calls Tryd.prog 16 #[v, v'] w (GivesB w (M.ksame t t'))) (fun op g ls nm so ks ih t' v v' w h h' => ?_) t
 obtain ⟨op', g', ls', nm', so', ks'⟩ := t'
 obtain ⟨N, nn, nc, A, c, rfl, hn, hk⟩ := h
 obtain ⟨N', nn', nc', A', c', rfl, hn', hk'⟩ := h'
 replace hk : Tms w ks (.slice A ks.length c) := hk
 replace hk' : Tms w ks' (.slice A' ks'.length c') := hk'
 replace hn : LNum w (.slice N nn nc) ls := hn
 replace hn' : LNum w (.slice N' nn' nc') ls' := hn'
 show Calls Tryd.prog 16 #[kv op g N nn nc nm so A ks.length c, kv op' g' N' nn' nc' nm' so' A' ks'.length c'] w _
 have HC := hid (show ∀ w', Ext w w' → Calls Tryd.prog 39 #[.slice A ks.length c, .slice A' ks'.length c', sameFun] w' (GivesB w' (decide (ks.length = ks'.length) && M.ksames ks ks')) from fun w' e => equalF_t ih (hk.up e) (hk'.up e))
 obtain ⟨q, hq⟩ : ∃ q, (decide (ks.length = ks'.length) && M.ksames ks ks') = q := ⟨_, rfl⟩
 obtain ⟨p, hp⟩ : ∃ p, (decide (op = op') && (decide (g = g' ∧ ls = ls') && (decide (nm = nm') && decide (so = so')))) = p := ⟨_, rfl⟩
 have HH := hid (show ∀ n n' w', Ext w w' → Calls Tryd.prog 38 #[kv op g N nn nc nm so A n c, kv op' g' N' nn' nc' nm' so' A' n' c'] w' (GivesB w' p) from fun n n' w' e => by
  rw [← hp]
  exact sameHead_n (hn.up e) (hn'.up e))
 have hz : M.ksame (.mk op g ls nm so ks) (.mk op' g' ls' nm' so' ks') = (p && q) := by
  rw [M.ksame, ← hq, ← hp]
  simp only [Bool.and_assoc]
  rfl
 rw [hz]
 rw [hq] at HC
 obtain ⟨n, hn1⟩ : ∃ n, ks.length = n := ⟨_, rfl⟩
 obtain ⟨n', hn1'⟩ : ∃ n', ks'.length = n' := ⟨_, rfl⟩
 rw [hn1, hn1'] at HC
 rw [hn1, hn1']
 have HB1 := hid (show Box ((w.alloc (.cells #[.int .i64 op, .bool g, .slice N nn nc, str nm, .int .i64 so, .slice A n c] 27)).alloc (.cells #[.int .i64 op', .bool g', .slice N' nn' nc', str nm', .int .i64 so', .slice A' n' c'] 27)) w.heap.size #[.int .i64 op, .bool g, .slice N nn nc, str nm, .int .i64 so, .slice A n c] 27 from (Box.new w _ _).alloc _)
 have HB2 := hid (show Box ((w.alloc (.cells #[.int .i64 op, .bool g, .slice N nn nc, str nm, .int .i64 so, .slice A n c] 27)).alloc (.cells #[.int .i64 op', .bool g', .slice N' nn' nc', str nm', .int .i64 so', .slice A' n' c'] 27)) (w.heap.size + 1) #[.int .i64 op', .bool g', .slice N' nn' nc', str nm', .int .i64 so', .slice A' n' c'] 27 from Box.at_ (w := w.alloc (.cells #[.int .i64 op, .bool g, .slice N nn nc, str nm, .int .i64 so, .slice A n c] 27)) _ _ (by simp))
 clear hn hn' hk hk' ih hq hp hz hn1 hn1'
 cases p
 ·go_enter Tryd.func16, Tryd.ntmps16
  go_wp2_with fail
  refine (HH.out n n' _ (alloc_two w _ _)).mono ?_
  rintro e w' ⟨rfl, hb⟩
  go_wp2
  go_ret
  exact ⟨rfl, (alloc_two w _ _).trans hb⟩
 ·go_enter Tryd.func16, Tryd.ntmps16
  go_wp2_with fail
  refine (HH.out n n' _ (alloc_two w _ _)).mono ?_
  rintro e w' ⟨rfl, hb⟩
  obtain ⟨⟨a0, a1, a2, a3, a4, a5⟩, -, -⟩ := boxF6 (HB1.out.up hb)
  obtain ⟨⟨b0, b1, b2, b3, b4, b5⟩, -, -⟩ := boxF6 (HB2.out.up hb)
  have E := hid ((alloc_two w _ _).trans hb)
  clear hb
  go_wp2_with fail
  refine (HC.out _ E.out).mono ?_
  rintro e w2 ⟨rfl, hb⟩
  replace E := hid (E.out.trans hb)
  clear hb
  go_wp2
  go_ret
  exact ⟨rfl, E.out⟩
end Go.Proofs.YtaoboilkpgphaaaDoor.Q

