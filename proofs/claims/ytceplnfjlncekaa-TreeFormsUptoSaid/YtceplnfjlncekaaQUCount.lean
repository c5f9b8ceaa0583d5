/-
  Contracts of package tree: how many nodes, how many lists within one another.
-/
import Derived.Test.YtceplnfjlncekaaQTCount
namespace Go.Proofs.Ytceplnfjlncekaa
set_option linter.unusedSimpArgs false
set_option linter.unusedVariables false
open Go.RowKit

theorem IsT.kids {w : World} {t : M.T} {B : Option Addr} {n d : Nat} (h : IsT w t (tv t.list t.tok B n d)) : Kids w t.kids (.slice B n d) := by
 obtain ⟨A, c, h1, h2⟩ := h
 unfold tv at h1
 injection h1 with h1
 have h3 : (Value.slice B n d) = .slice A t.kids.length c := by simpa using h1
 rw [h3]; exact h2
set_option maxHeartbeats 4000000 in
theorem counted_n : ∀ (N : Nat) {ks : List M.T} {v : Value} {m : Nat} {w : World}, M.cnts ks < N → Kids w ks v → m ≤ 401 → Calls Try.prog 33 #[.int .i64 (m : Int), v] w (GivesI w ((min (m + M.cnts ks) 401 : Nat) : Int)) := by
 intro N
 induction N with
 | zero => intro ks v m w h; omega
 | succ N ih =>
  intro ks v m w hN hk hm
  obtain ⟨A, c, rfl⟩ := hk.shape
  obtain ⟨hl1, hl2, hl3⟩ := hk.le
  have hl4 : c ≤ 9223372036854775807 := by unfold maxLen at hl3; omega
  obtain ⟨n, hn⟩ : ∃ n, ks.length = n := ⟨_, rfl⟩
  obtain ⟨z, hz⟩ : ∃ z, min (m + M.cnts ks) 401 = z := ⟨_, rfl⟩
  rw [hz]
  rw [hn] at hk hl2 ⊢
  have HK := hid hk
  have IH := @hid _ @ih
  have HZ := hid (show z = min (m + M.cnts (ks.take n)) 401 by rw [← hn, List.take_length, ← hz])
  have HNN := hid hN
  clear hk ih hn hl1 hl3 hz hN
  go_enter Try.func33, Try.ntmps33
  go_wp2_with fail
  go_loopw [0, 9] (fun x i wr => ∃ (k s : Nat), x = .int .i64 (s : Int) ∧ i = .int .i64 (k : Int) ∧ k ≤ n ∧ s ≤ 401 ∧ Hid (s = min (m + M.cnts (ks.take k)) 401 ∧ Ext w wr)) (fun _ i _ => n - (intOf i).toNat)
  case atStart => exact ⟨0, m, rfl, rfl, Nat.zero_le _, hm, by simp [M.cnts]; omega, Ext.refl _⟩
  case round =>
   obtain ⟨k, s, rfl, rfl, hk, hs, hR⟩ := hrel
   have E := hid hR.out.2
   have HS := hid hR.out.1
   clear hR
   rcases Nat.lt_or_ge k n with hlt | hge
   ·have hlt' : (k : Int) < (n : Int) := by omega
    obtain ⟨ad, u, B, d, rfl, hu, c0, c1, c2, c3, hv⟩ := (HK.out.up E.out).get hlt
    have HU := hid hu
    rcases Nat.lt_or_ge 400 s with h4 | h4
    ·have hq : 400 < (s : Int) := by omega
     clear hu hv
     go_wp2
     go_ret
     obtain rfl : s = z := by
      have h1 := HS.out
      have h2 := HZ.out
      have h3 := M.cnts_take_le (ks.take n) k
      rw [List.take_take, Nat.min_eq_left (by omega)] at h3
      omega
     exact ⟨rfl, E.out.alloc' _⟩
    ·have hq : decide (400 < (s : Int)) = false := by simp; omega
     obtain ⟨y, hy⟩ : ∃ y, s + 1 = y := ⟨_, rfl⟩
     have hsi : (s : Int) + 1 = (y : Int) := by omega
     obtain ⟨q, hqq⟩ : ∃ q, min (y + M.cnts u.kids) 401 = q := ⟨_, rfl⟩
     have HQ := hid (show q = min (s + M.cnt u) 401 by rw [← hqq, ← hy, M.T.eta u, M.cnt]; show min (s + 1 + M.cnts u.kids) 401 = _; omega)
     have hkd := hv.kids
     have HC := hid (show ∀ w', Ext wr w' → Calls Try.prog 33 #[.int .i64 (y : Int), .slice B u.kids.length d] w' (GivesI w' (q : Int)) from fun w' e => by
      rw [← hqq]
      refine IH.out ?_ (hkd.up e) (by omega)
      have h1 := M.cnts_take HU.out
      have h2 := M.cnts_take_le ks (k + 1)
      have h3 := HNN.out
      have h4 : M.cnt u = 1 + M.cnts u.kids := by rw [M.T.eta u, M.cnt]; rfl
      omega)
     have hq9 : q ≤ 401 := by omega
     clear hu hv hkd hy hqq
     go_wp2_with (go_at_call 33; refine (HC.out _ (Ext.alloc _ _)).mono ?_; rintro e w' ⟨rfl, hb⟩; replace E := hid ((E.out.alloc' _).trans hb); clear hb)
     go_roundw
     case rel => exact ⟨k + 1, q, rfl, by simp, by omega, hq9, by
      have h1 := HS.out
      have h2 := HQ.out
      rw [M.cnts_take HU.out]; omega, E.out⟩
     case measure => simp [intOf]; omega
   ·obtain rfl : k = n := by omega
    go_wp2
    go_ret
    obtain rfl : s = z := by rw [HS.out, HZ.out]
    exact ⟨rfl, E.out⟩
/-- A list of one tree that lies in a box of its own. -/
theorem kids_one {w : World} {t : M.T} {l : Bool} {tk : M.Tok} {A : Option Addr} {n c : Nat} (h : IsT w t (tv l tk A n c)) : Kids (boxed w l tk A n c) [t] (.slice (some ⟨w.heap.size, 0, none⟩) 1 1) := by
 obtain ⟨A', c', h1, h2⟩ := h
 unfold tv at h1
 injection h1 with h1
 have h3 : l = t.list ∧ (Value.int .i64 tk.1 = .int .i64 t.tok.1) ∧ str tk.2 = str t.tok.2 ∧ Value.slice A n c = .slice A' t.kids.length c' := by simpa using h1
 obtain ⟨e1, e2, e3, e4⟩ := h3
 obtain ⟨b0, b1, b2, b3, hz⟩ := box4 (Ext.refl (boxed w l tk A n c))
 refine Kids.mk_ ⟨_, 1, 1, rfl, rfl, Nat.le_refl _, by unfold maxLen; omega, fun _ => ⟨_, rfl, hz, fun k u hk => ?_⟩⟩
 rcases k with _ | k
 ·simp at hk
  subst hk
  rw [M.T.eta t]
  refine inAt_mk.2 ⟨_, ⟨?_, ?_, ?_, b3⟩, ?_⟩
  ·rw [← e1]; exact b0
  ·rw [← e2]; exact b1
  ·rw [← e3]; exact b2
  ·rw [e4]; exact h2.up (Ext.alloc _ _)
 ·simp at hk
theorem count_t (t : M.T) {v : Value} {w : World} (h : IsT w t v) : Calls Try.prog 17 #[v] w (GivesI w ((min (M.cnt t) 401 : Nat) : Int)) := by
 obtain ⟨A, c, rfl, hk⟩ := h
 obtain ⟨n, hn⟩ : ∃ n, t.kids.length = n := ⟨_, rfl⟩
 obtain ⟨l, hl⟩ : ∃ l, t.list = l := ⟨_, rfl⟩
 obtain ⟨tk, htk⟩ : ∃ tk, t.tok = tk := ⟨_, rfl⟩
 have hT : IsT (boxed w l tk A n c) t (tv l tk A n c) := by
  rw [← hn, ← hl, ← htk]
  exact ⟨A, c, rfl, hk.up (Ext.alloc w _)⟩
 have hK : Kids (boxed (boxed w l tk A n c) l tk A n c) [t] (.slice (some ⟨w.heap.size + 1, 0, none⟩) 1 1) := by
  have := kids_one hT
  rwa [show (boxed w l tk A n c).heap.size = w.heap.size + 1 by simp] at this
 obtain ⟨z, hz⟩ : ∃ z, min (M.cnt t) 401 = z := ⟨_, rfl⟩
 have H := hid (show Calls Try.prog 33 #[.int .i64 0, .slice (some ⟨w.heap.size + 1, 0, none⟩) 1 1] (boxed (boxed w l tk A n c) l tk A n c) (GivesI (boxed (boxed w l tk A n c) l tk A n c) (z : Int)) by
  have := counted_n (M.cnts [t] + 1) (m := 0) (Nat.lt_succ_self _) hK (by omega)
  rw [show M.cnts [t] = M.cnt t by simp [M.cnts], Nat.zero_add, hz] at this
  exact this)
 rw [hn, hl, htk, hz]
 clear hk hT hn hl htk hK hz
 go_enter Try.func17, Try.ntmps17
 go_wp2_with fail
 refine H.out.mono ?_
 rintro e w' ⟨rfl, hb⟩
 have E := hid hb
 clear hb
 go_wp2
 go_ret
 exact ⟨rfl, ((Ext.alloc w _).alloc' _).trans E.out⟩
set_option maxHeartbeats 4000000 in
theorem deepest_n : ∀ (N : Nat) {ks : List M.T} {v : Value} {m : Nat} {w : World}, M.cnts ks < N → Kids w ks v → m ≤ 61 → Calls Try.prog 35 #[.int .i64 (m : Int), v] w (GivesI w ((min (m + M.deps ks) 61 : Nat) : Int)) := by
 intro N
 induction N with
 | zero => intro ks v m w h; omega
 | succ N ih =>
  intro ks v m w hN hk hm
  obtain ⟨A, c, rfl⟩ := hk.shape
  obtain ⟨hl1, hl2, hl3⟩ := hk.le
  have hl4 : c ≤ 9223372036854775807 := by unfold maxLen at hl3; omega
  obtain ⟨n, hn⟩ : ∃ n, ks.length = n := ⟨_, rfl⟩
  obtain ⟨z, hz⟩ : ∃ z, min (m + M.deps ks) 61 = z := ⟨_, rfl⟩
  rw [hz]
  rw [hn] at hk hl2 ⊢
  have HK := hid hk
  have IH := @hid _ @ih
  have HZ := hid (show z = min (m + M.deps (ks.take n)) 61 by rw [← hn, List.take_length, ← hz])
  have HNN := hid hN
  have HM := hid (show ∀ k, k ≤ n → m + M.deps (ks.take k) ≤ m + M.deps (ks.take n) from fun k hk => by
   have h2 := congrArg M.deps (List.take_append_drop k (ks.take n))
   rw [M.deps_app, List.take_take, Nat.min_eq_left hk] at h2
   omega)
  clear hk ih hn hl1 hl3 hz hN
  go_enter Try.func35, Try.ntmps35
  go_wp2_with fail
  go_loopw [5, 11] (fun x i wr => ∃ (k s : Nat), x = .int .i64 (s : Int) ∧ i = .int .i64 (k : Int) ∧ k ≤ n ∧ s ≤ 61 ∧ Hid (s = min (m + M.deps (ks.take k)) 61 ∧ Ext w wr)) (fun _ i _ => n - (intOf i).toNat)
  case atStart => exact ⟨0, m, rfl, rfl, Nat.zero_le _, hm, by simp [M.deps]; omega, Ext.refl _⟩
  case round =>
   obtain ⟨k, s, rfl, rfl, hk, hs, hR⟩ := hrel
   have E := hid hR.out.2
   have HS := hid hR.out.1
   clear hR
   rcases Nat.lt_or_ge k n with hlt | hge
   ·have hlt' : (k : Int) < (n : Int) := by omega
    obtain ⟨ad, u, B, d, rfl, hu, c0, c1, c2, c3, hv⟩ := (HK.out.up E.out).get hlt
    have HU := hid hu
    rcases Nat.lt_or_ge 60 s with h4 | h4
    ·have hq : 60 < (s : Int) := by omega
     clear hu hv
     go_wp2
     go_ret
     obtain rfl : s = z := by
      have h1 := HS.out
      have h2 := HZ.out
      have h3 := HM.out k hk
      omega
     exact ⟨rfl, E.out.alloc' _⟩
    ·have hq : decide (60 < (s : Int)) = false := by simp; omega
     obtain ⟨b, hb⟩ : ∃ b, u.list = b := ⟨_, rfl⟩
     rw [hb] at c0
     cases b
     ·have HD := hid (show M.dep u = 0 by rw [M.T.eta u, M.dep, hb]; rfl)
      clear hu hv hb
      go_wp2_with fail
      go_roundw
      case rel => exact ⟨k + 1, s, rfl, by simp, by omega, hs, by
       have h1 := HS.out
       have h2 := HD.out
       rw [M.deps_take HU.out, h2]; omega, E.out.alloc' _⟩
      case measure => simp [intOf]; omega
     ·have HD := hid (show M.dep u = 1 + M.deps u.kids by rw [M.T.eta u, M.dep, hb]; rfl)
      have hms : m ≤ s := by have := HS.out; omega
      obtain ⟨y, hy⟩ : ∃ y, m + 1 = y := ⟨_, rfl⟩
      have hsi : (m : Int) + 1 = (y : Int) := by omega
      obtain ⟨q, hqq⟩ : ∃ q, min (y + M.deps u.kids) 61 = q := ⟨_, rfl⟩
      have hkd := hv.kids
      have HC := hid (show ∀ w', Ext wr w' → Calls Try.prog 35 #[.int .i64 (y : Int), .slice B u.kids.length d] w' (GivesI w' (q : Int)) from fun w' e => by
       rw [← hqq]
       refine IH.out ?_ (hkd.up e) (by omega)
       have h1 := M.cnts_take HU.out
       have h2 := M.cnts_take_le ks (k + 1)
       have h3 := HNN.out
       have h4 : M.cnt u = 1 + M.cnts u.kids := by rw [M.T.eta u, M.cnt]; rfl
       omega)
      have hq9 : q ≤ 61 := by omega
      have HQ := hid (show q = min (m + M.dep u) 61 by rw [HD.out, ← hqq, ← hy]; omega)
      clear hu hv hkd hy hqq hb hms
      go_wp2_with (go_at_call 35; refine (HC.out _ (Ext.alloc _ _)).mono ?_; rintro e w' ⟨rfl, hb⟩; replace E := hid ((E.out.alloc' _).trans hb); clear hb)
      go_roundw
      case rel => exact ⟨k + 1, max s q, by simp <;> omega, by simp, by omega, by omega, by
       have h1 := HS.out
       have h2 := HQ.out
       rw [M.deps_take HU.out]; omega, E.out⟩
      case measure => simp [intOf]; omega
   ·obtain rfl : k = n := by omega
    go_wp2
    go_ret
    obtain rfl : s = z := by rw [HS.out, HZ.out]
    exact ⟨rfl, E.out⟩
theorem deep_t (t : M.T) {v : Value} {w : World} (h : IsT w t v) : Calls Try.prog 19 #[v] w (GivesI w ((min (M.dep t) 61 : Nat) : Int)) := by
 obtain ⟨A, c, rfl, hk⟩ := h
 obtain ⟨n, hn⟩ : ∃ n, t.kids.length = n := ⟨_, rfl⟩
 obtain ⟨l, hl⟩ : ∃ l, t.list = l := ⟨_, rfl⟩
 obtain ⟨tk, htk⟩ : ∃ tk, t.tok = tk := ⟨_, rfl⟩
 have hT : IsT (boxed w l tk A n c) t (tv l tk A n c) := by
  rw [← hn, ← hl, ← htk]
  exact ⟨A, c, rfl, hk.up (Ext.alloc w _)⟩
 have hK : Kids (boxed (boxed w l tk A n c) l tk A n c) [t] (.slice (some ⟨w.heap.size + 1, 0, none⟩) 1 1) := by
  have := kids_one hT
  rwa [show (boxed w l tk A n c).heap.size = w.heap.size + 1 by simp] at this
 obtain ⟨z, hz⟩ : ∃ z, min (M.dep t) 61 = z := ⟨_, rfl⟩
 have H := hid (show Calls Try.prog 35 #[.int .i64 0, .slice (some ⟨w.heap.size + 1, 0, none⟩) 1 1] (boxed (boxed w l tk A n c) l tk A n c) (GivesI (boxed (boxed w l tk A n c) l tk A n c) (z : Int)) by
  have := deepest_n (M.cnts [t] + 1) (m := 0) (Nat.lt_succ_self _) hK (by omega)
  rw [show M.deps [t] = M.dep t by simp [M.deps], Nat.zero_add, hz] at this
  exact this)
 rw [hn, hl, htk, hz]
 clear hk hT hn hl htk hK hz
 go_enter Try.func19, Try.ntmps19
 go_wp2_with fail
 refine H.out.mono ?_
 rintro e w' ⟨rfl, hb⟩
 have E := hid hb
 clear hb
 go_wp2
 go_ret
 exact ⟨rfl, ((Ext.alloc w _).alloc' _).trans E.out⟩
end Go.Proofs.Ytceplnfjlncekaa
