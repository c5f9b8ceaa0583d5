/-
  Layer 9, the reference: how many nodes, how many lists within one another; small enough to be looked at.
-/
import Derived.Test.YtgkofipifjfjhaaGreatDoorJQT
import Derived.Test.YtgkofipifjfjhaaGreatDoorJQB
import Derived.Test.YtgkofipifjfjhaaGreatDoorJQH
namespace Go.Proofs.YtgkofipifjfjhaaGreatDoor.Q
set_option linter.unusedSimpArgs false
set_option linter.unusedVariables false
open Go.RowKit

theorem box4 {w wN : World} {x y z u : Value} {T : TypeId} (h : Ext (w.alloc (.cells #[x, y, z, u] T)) wN) :
 wN.cell? ⟨w.heap.size, 0, none⟩ = some x ∧ wN.cell? ⟨w.heap.size, 1, none⟩ = some y ∧ wN.cell? ⟨w.heap.size, 2, none⟩ = some z ∧ wN.cell? ⟨w.heap.size, 3, none⟩ = some u ∧ w.heap.size < wN.heap.size := by
 have h1 : (w.alloc (.cells #[x, y, z, u] T)).heap[w.heap.size]? = some (.cells #[x, y, z, u] T (0, 0)) := heap_alloc_new w _
 have h2 : wN.heap[w.heap.size]? = some (.cells #[x, y, z, u] T (0, 0)) := (h.block _ (by simp)).trans h1
 refine ⟨?_, ?_, ?_, ?_, (Array.getElem?_eq_some_iff.1 h2).1⟩
 ·rw [cell_of_row wN _ 0 _ T (0, 0) h2]; rfl
 ·rw [cell_of_row wN _ 1 _ T (0, 0) h2]; rfl
 ·rw [cell_of_row wN _ 2 _ T (0, 0) h2]; rfl
 ·rw [cell_of_row wN _ 3 _ T (0, 0) h2]; rfl
abbrev boxed (w : World) (l : Bool) (tk : M.Tok) (A : Option Addr) (n c : Nat) : World := w.alloc (.cells #[.bool l, .int .i64 tk.1, str tk.2, .slice A n c] 26)
set_option maxHeartbeats 4000000 in
theorem count_n (t : M.T) : ∀ {v : Value} {m : Nat} {w : World}, IsT w t v → 1 ≤ m → m ≤ 401 → Calls Tryz.prog 59 #[v, .int .i64 (m : Int)] w (GivesI w ((min (M.cnt t) m : Nat) : Int)) := by
 refine M.T.indA (P := fun t => ∀ {v : Value} {m : Nat} {w : World}, IsT w t v → 1 ≤ m → m ≤ 401 → Calls Tryz.prog 59 #[v, .int .i64 (m : Int)] w (GivesI w ((min (M.cnt t) m : Nat) : Int))) (fun l tk ks ih v m w h hm1 hm => ?_) t
 obtain ⟨A, c, rfl, hk⟩ := h
 replace hk : Kids w ks (.slice A ks.length c) := hk
 show Calls Tryz.prog 59 #[tv l tk A ks.length c, .int .i64 (m : Int)] w _
 obtain ⟨hl1, hl2, hl3⟩ := hk.le
 have hl4 : c ≤ 9223372036854775807 := by unfold maxLen at hl3; omega
 obtain ⟨n, hn⟩ : ∃ n, ks.length = n := ⟨_, rfl⟩
 obtain ⟨z, hz⟩ : ∃ z, min (M.cnt (.mk l tk ks)) m = z := ⟨_, rfl⟩
 rw [hz]
 rw [hn] at hk hl2 ⊢
 have HK := hid hk
 have IH := hid ih
 have HN := hid hn
 have HZ := hid (show z = min (1 + M.cnts (ks.take n)) m by rw [← hn, List.take_length, ← hz, M.cnt])
 have HM := hid hl3
 clear hk ih hn hl1 hl3 hz
 go_enter Tryz.func59, Tryz.ntmps59
 go_wp2_with fail
 go_loopw [5, 6] (fun x i wr => ∃ (k s : Nat), x = .int .i64 (s : Int) ∧ i = .int .i64 (k : Int) ∧ k ≤ n ∧ s ≤ m ∧ Hid (s = min (1 + M.cnts (ks.take k)) m ∧ Ext (boxed w l tk A n c) wr)) (fun _ i _ => n - (intOf i).toNat)
 case atStart => exact ⟨0, 1, rfl, rfl, Nat.zero_le _, hm1, by simp [M.cnts]; omega, Ext.refl _⟩
 case round =>
  obtain ⟨k, s, rfl, rfl, hk, hs, hR⟩ := hrel
  have E := hid hR.out.2
  obtain ⟨b0, b1, b2, b3, hz⟩ := box4 E.out
  have HS := hid hR.out.1
  clear hR
  rcases Nat.lt_or_ge k n with hlt | hge
  ·have hlt' : (k : Int) < (n : Int) := by omega
   rcases Nat.lt_or_ge s m with hsl | hsg
   ·have hsl' : (s : Int) < (m : Int) := by omega
    obtain ⟨ad, u, B, d, rfl, hu, c0, c1, c2, c3, hv⟩ := (HK.out.up ((Ext.alloc w _).trans E.out)).get hlt
    have HU := hid hu
    have HC := hid (IH.out k u HU.out hv (show 1 ≤ m - s by omega) (by omega))
    obtain ⟨q, hq⟩ : ∃ q, min (M.cnt u) (m - s) = q := ⟨_, rfl⟩
    have HQ := hid hq
    have hq9 : q ≤ m - s := by omega
    have HV := hid hv
    rw [hq] at HC
    obtain ⟨y, hy⟩ : ∃ y, m - s = y := ⟨_, rfl⟩
    have hms : ((m : Int) - (s : Int)) = (y : Int) := by omega
    rw [hy] at HC
    have HY := hid hy
    clear hu hv hq hy
    go_wp2_with (go_at_call 59; refine HC.out.mono ?_; rintro e w' ⟨rfl, hb⟩; replace E := hid (E.out.trans hb); clear hb)
    go_roundw
    case rel => exact ⟨k + 1, s + q, by simp, by simp, by omega, by omega, by
     have h1 := HS.out
     have h2 := HQ.out
     rw [M.cnts_take HU.out]; omega, E.out⟩
    case measure => simp [intOf]; omega
   ·obtain rfl : s = m := by omega
    go_wp2
    go_ret
    obtain rfl : s = z := by
     have h1 := HS.out
     have h2 := HZ.out
     have h3 := M.cnts_take_le (ks.take n) k
     rw [List.take_take] at h3
     rw [Nat.min_eq_left (by omega)] at h3
     omega
    exact ⟨rfl, (Ext.alloc w _).trans E.out⟩
  ·obtain rfl : k = n := by omega
   have hmn : min (s : Int) (m : Int) = (s : Int) := by omega
   go_wp2
   go_ret
   obtain rfl : s = z := by rw [HS.out, HZ.out]
   exact ⟨rfl, (Ext.alloc w _).trans E.out⟩
theorem rCount_n (t : M.T) {v : Value} {w : World} (h : IsT w t v) : Calls Tryz.prog 16 #[v] w (GivesI w ((min (M.cnt t) 401 : Nat) : Int)) := by
 obtain ⟨A, c, rfl, hk⟩ := h
 have H := hid (show Calls Tryz.prog 59 #[tv t.list t.tok A t.kids.length c, .int .i64 401] (boxed w t.list t.tok A t.kids.length c) (GivesI (boxed w t.list t.tok A t.kids.length c) ((min (M.cnt t) 401 : Nat) : Int)) from count_n t (m := 401) ⟨A, c, rfl, hk.up (Ext.alloc w _)⟩ (by omega) (by omega))
 clear hk
 go_enter Tryz.func16, Tryz.ntmps16
 go_wp2_with fail
 refine H.out.mono ?_
 rintro e w' ⟨rfl, hb⟩
 have E := hid hb
 clear hb
 go_wp2
 go_ret
 exact ⟨rfl, (Ext.alloc w _).trans E.out⟩
set_option maxHeartbeats 4000000 in
theorem deep_n (t : M.T) : ∀ {v : Value} {m : Nat} {w : World}, IsT w t v → m ≤ 61 → Calls Tryz.prog 124 #[v, .int .i64 (m : Int)] w (GivesI w ((min (M.dep t) m : Nat) : Int)) := by
 refine M.T.indA (P := fun t => ∀ {v : Value} {m : Nat} {w : World}, IsT w t v → m ≤ 61 → Calls Tryz.prog 124 #[v, .int .i64 (m : Int)] w (GivesI w ((min (M.dep t) m : Nat) : Int))) (fun l tk ks ih v m w h hm => ?_) t
 obtain ⟨A, c, rfl, hk⟩ := h
 replace hk : Kids w ks (.slice A ks.length c) := hk
 show Calls Tryz.prog 124 #[tv l tk A ks.length c, .int .i64 (m : Int)] w _
 obtain ⟨hl1, hl2, hl3⟩ := hk.le
 have hl4 : c ≤ 9223372036854775807 := by unfold maxLen at hl3; omega
 obtain ⟨n, hn⟩ : ∃ n, ks.length = n := ⟨_, rfl⟩
 obtain ⟨z, hz⟩ : ∃ z, min (M.dep (.mk l tk ks)) m = z := ⟨_, rfl⟩
 rw [hz]
 rw [hn] at hk hl2 ⊢
 cases l with
 | false =>
  have HZ := hid (show 0 = z by rw [← hz, M.dep]; simp)
  clear hk ih hn hl1 hl3 hz
  go_enter Tryz.func124, Tryz.ntmps124
  go_wp2
  go_ret
  obtain rfl := HZ.out
  exact ⟨rfl, Ext.alloc w _⟩
 | true =>
  rcases Nat.eq_zero_or_pos m with rfl | hmp
  ·have HZ := hid (show 0 = z by rw [← hz]; simp)
   clear hk ih hn hl1 hl3 hz
   go_enter Tryz.func124, Tryz.ntmps124
   go_wp2
   go_ret
   obtain rfl := HZ.out
   exact ⟨rfl, Ext.alloc w _⟩
  ·have hmq : ((m : Int) == 0) = false := by simp; omega
   have HK := hid hk
   have IH := hid ih
   have HN := hid hn
   have HZ := hid (show z = min (M.deps (ks.take n)) (m - 1) + 1 by rw [← hn, List.take_length, ← hz, M.dep]; simp; omega)
   clear hk ih hn hl1 hl3 hz
   obtain ⟨y, hy⟩ : ∃ y, m - 1 = y := ⟨_, rfl⟩
   have hms : ((m : Int) - 1) = (y : Int) := by omega
   rw [hy] at HZ
   have hy9 : y ≤ 61 := by omega
   have HY := hid hy
   clear hy
   go_enter Tryz.func124, Tryz.ntmps124
   go_wp2_with fail
   go_loopw [5, 6] (fun x i wr => ∃ (k s : Nat), x = .int .i64 (s : Int) ∧ i = .int .i64 (k : Int) ∧ k ≤ n ∧ s ≤ 61 ∧ Hid (s = min (M.deps (ks.take k)) y ∧ Ext (boxed w true tk A n c) wr)) (fun _ i _ => n - (intOf i).toNat)
   case atStart => exact ⟨0, 0, rfl, rfl, Nat.zero_le _, by omega, by simp [M.deps], Ext.refl _⟩
   case round =>
    obtain ⟨k, s, rfl, rfl, hk, hs, hR⟩ := hrel
    have E := hid hR.out.2
    obtain ⟨b0, b1, b2, b3, hz⟩ := box4 E.out
    have HS := hid hR.out.1
    clear hR
    rcases Nat.lt_or_ge k n with hlt | hge
    ·have hlt' : (k : Int) < (n : Int) := by omega
     obtain ⟨ad, u, B, d, rfl, hu, c0, c1, c2, c3, hv⟩ := (HK.out.up ((Ext.alloc w _).trans E.out)).get hlt
     have HU := hid hu
     have HC := hid (IH.out k u HU.out hv (show y ≤ 61 by omega))
     obtain ⟨q, hq⟩ : ∃ q, min (M.dep u) y = q := ⟨_, rfl⟩
     have HQ := hid hq
     have hq9 : q ≤ 61 := by omega
     have HV := hid hv
     rw [hq] at HC
     clear hu hv hq
     go_wp2_with (go_at_call 124; refine HC.out.mono ?_; rintro e w' ⟨rfl, hb⟩; replace E := hid (E.out.trans hb); clear hb)
     go_roundw
     case rel => exact ⟨k + 1, max s q, by simp <;> omega, by simp, by omega, by omega, by
      have h1 := HS.out
      have h2 := HQ.out
      rw [M.deps_take HU.out]; omega, E.out⟩
     case measure => simp [intOf]; omega
    ·obtain rfl : k = n := by omega
     go_wp2
     go_ret
     obtain rfl : s + 1 = z := by rw [HS.out, HZ.out]
     exact ⟨by simp, (Ext.alloc w _).trans E.out⟩
theorem rDeep_n (t : M.T) {v : Value} {w : World} (h : IsT w t v) : Calls Tryz.prog 73 #[v] w (GivesI w ((min (M.dep t) 61 : Nat) : Int)) := by
 obtain ⟨A, c, rfl, hk⟩ := h
 have H := hid (show Calls Tryz.prog 124 #[tv t.list t.tok A t.kids.length c, .int .i64 61] (boxed w t.list t.tok A t.kids.length c) (GivesI (boxed w t.list t.tok A t.kids.length c) ((min (M.dep t) 61 : Nat) : Int)) from deep_n t (m := 61) ⟨A, c, rfl, hk.up (Ext.alloc w _)⟩ (by omega))
 clear hk
 go_enter Tryz.func73, Tryz.ntmps73
 go_wp2_with fail
 refine H.out.mono ?_
 rintro e w' ⟨rfl, hb⟩
 have E := hid hb
 clear hb
 go_wp2
 go_ret
 exact ⟨rfl, (Ext.alloc w _).trans E.out⟩
end Go.Proofs.YtgkofipifjfjhaaGreatDoor.Q

/-
  Layer 9, the reference: a tree's words.
-/
namespace Go.Proofs.YtgkofipifjfjhaaGreatDoor.Q
set_option linter.unusedSimpArgs false
set_option linter.unusedVariables false
open Go.RowKit

namespace M
end M
/-- A list of one word, just made. -/
theorem OwnT.lit (base : Nat) (w : World) (t : M.Tok) (hb : base ≤ w.heap.size) : OwnT base (w.alloc (.cells #[.int .i64 t.1, str t.2] 23)) (.slice (some ⟨w.heap.size, 0, none⟩) 1 1) [t] :=
 World.ownsRow_lit w #[.int .i64 t.1, str t.2] 1 hb (by unfold maxLen; omega) rfl
end Go.Proofs.YtgkofipifjfjhaaGreatDoor.Q

/-
  Contracts of package tree: how many nodes, how many lists within one another.
-/
namespace Go.Proofs.YtgkofipifjfjhaaGreatDoor.Q
set_option linter.unusedSimpArgs false
set_option linter.unusedVariables false
open Go.RowKit

theorem IsT.kids {w : World} {t : M.T} {B : Option Addr} {n d : Nat} (h : IsT w t (tv t.list t.tok B n d)) : Kids w t.kids (.slice B n d) := by
 obtain ⟨A, c, h1, h2⟩ := h
 unfold tv at h1
 injection h1 with h1
 have h3 : (Value.slice B n d) = .slice A t.kids.length c := by simpa using h1
 rw [h3]; exact h2
set_option maxHeartbeats 4000000 in
theorem countedU_n : ∀ (N : Nat) {ks : List M.T} {v : Value} {m : Nat} {w : World}, M.cnts ks < N → Kids w ks v → m ≤ 401 → Calls Tryz.prog 152 #[.int .i64 (m : Int), v] w (GivesI w ((min (m + M.cnts ks) 401 : Nat) : Int)) := by
 intro N
 induction N with
 | zero => intro ks v m w h; omega
 | succ N ih =>
  intro ks v m w hN hk hm
  obtain ⟨A, c, rfl⟩ := hk.shape
  obtain ⟨hl1, hl2, hl3⟩ := hk.le
  have hl4 : c ≤ 9223372036854775807 := by unfold maxLen at hl3; omega
  obtain ⟨n, hn⟩ : ∃ n, ks.length = n := ⟨_, rfl⟩
  obtain ⟨z, hz⟩ : ∃ z, min (m + M.cnts ks) 401 = z := ⟨_, rfl⟩
  rw [hz]
  rw [hn] at hk hl2 ⊢
  have HK := hid hk
  have IH := @hid _ @ih
  have HZ := hid (show z = min (m + M.cnts (ks.take n)) 401 by rw [← hn, List.take_length, ← hz])
  have HNN := hid hN
  clear hk ih hn hl1 hl3 hz hN
  go_enter Tryz.func152, Tryz.ntmps152
  go_wp2_with fail
  go_loopw [0, 9] (fun x i wr => ∃ (k s : Nat), x = .int .i64 (s : Int) ∧ i = .int .i64 (k : Int) ∧ k ≤ n ∧ s ≤ 401 ∧ Hid (s = min (m + M.cnts (ks.take k)) 401 ∧ Ext w wr)) (fun _ i _ => n - (intOf i).toNat)
  case atStart => exact ⟨0, m, rfl, rfl, Nat.zero_le _, hm, by simp [M.cnts]; omega, Ext.refl _⟩
  case round =>
   obtain ⟨k, s, rfl, rfl, hk, hs, hR⟩ := hrel
   have E := hid hR.out.2
   have HS := hid hR.out.1
   clear hR
   rcases Nat.lt_or_ge k n with hlt | hge
   ·have hlt' : (k : Int) < (n : Int) := by omega
    obtain ⟨ad, u, B, d, rfl, hu, c0, c1, c2, c3, hv⟩ := (HK.out.up E.out).get hlt
    have HU := hid hu
    rcases Nat.lt_or_ge 400 s with h4 | h4
    ·have hq : 400 < (s : Int) := by omega
     clear hu hv
     go_wp2
     go_ret
     obtain rfl : s = z := by
      have h1 := HS.out
      have h2 := HZ.out
      have h3 := M.cnts_take_le (ks.take n) k
      rw [List.take_take, Nat.min_eq_left (by omega)] at h3
      omega
     exact ⟨rfl, E.out.alloc' _⟩
    ·have hq : decide (400 < (s : Int)) = false := by simp; omega
     obtain ⟨y, hy⟩ : ∃ y, s + 1 = y := ⟨_, rfl⟩
     have hsi : (s : Int) + 1 = (y : Int) := by omega
     obtain ⟨q, hqq⟩ : ∃ q, min (y + M.cnts u.kids) 401 = q := ⟨_, rfl⟩
     have HQ := hid (show q = min (s + M.cnt u) 401 by rw [← hqq, ← hy, M.T.eta u, M.cnt]; show min (s + 1 + M.cnts u.kids) 401 = _; omega)
     have hkd := hv.kids
     have HC := hid (show ∀ w', Ext wr w' → Calls Tryz.prog 152 #[.int .i64 (y : Int), .slice B u.kids.length d] w' (GivesI w' (q : Int)) from fun w' e => by
      rw [← hqq]
      refine IH.out ?_ (hkd.up e) (by omega)
      have h1 := M.cnts_take HU.out
      have h2 := M.cnts_take_le ks (k + 1)
      have h3 := HNN.out
      have h4 : M.cnt u = 1 + M.cnts u.kids := by rw [M.T.eta u, M.cnt]; rfl
      omega)
     have hq9 : q ≤ 401 := by omega
     clear hu hv hkd hy hqq
     go_wp2_with (go_at_call 152; refine (HC.out _ (Ext.alloc _ _)).mono ?_; rintro e w' ⟨rfl, hb⟩; replace E := hid ((E.out.alloc' _).trans hb); clear hb)
     go_roundw
     case rel => exact ⟨k + 1, q, rfl, by simp, by omega, hq9, by
      have h1 := HS.out
      have h2 := HQ.out
      rw [M.cnts_take HU.out]; omega, E.out⟩
     case measure => simp [intOf]; omega
   ·obtain rfl : k = n := by omega
    go_wp2
    go_ret
    obtain rfl : s = z := by rw [HS.out, HZ.out]
    exact ⟨rfl, E.out⟩
/-- A list of one tree that lies in a box of its own. -/
theorem kids_one {w : World} {t : M.T} {l : Bool} {tk : M.Tok} {A : Option Addr} {n c : Nat} (h : IsT w t (tv l tk A n c)) : Kids (boxed w l tk A n c) [t] (.slice (some ⟨w.heap.size, 0, none⟩) 1 1) := by
 obtain ⟨A', c', h1, h2⟩ := h
 unfold tv at h1
 injection h1 with h1
 have h3 : l = t.list ∧ (Value.int .i64 tk.1 = .int .i64 t.tok.1) ∧ str tk.2 = str t.tok.2 ∧ Value.slice A n c = .slice A' t.kids.length c' := by simpa using h1
 obtain ⟨e1, e2, e3, e4⟩ := h3
 obtain ⟨b0, b1, b2, b3, hz⟩ := box4 (Ext.refl (boxed w l tk A n c))
 refine Kids.mk_ ⟨_, 1, 1, rfl, rfl, Nat.le_refl _, by unfold maxLen; omega, fun _ => ⟨_, rfl, hz, fun k u hk => ?_⟩⟩
 rcases k with _ | k
 ·simp at hk
  subst hk
  rw [M.T.eta t]
  refine inAt_mk.2 ⟨_, ⟨?_, ?_, ?_, b3⟩, ?_⟩
  ·rw [← e1]; exact b0
  ·rw [← e2]; exact b1
  ·rw [← e3]; exact b2
  ·rw [e4]; exact h2.up (Ext.alloc _ _)
 ·simp at hk
theorem countU_t (t : M.T) {v : Value} {w : World} (h : IsT w t v) : Calls Tryz.prog 103 #[v] w (GivesI w ((min (M.cnt t) 401 : Nat) : Int)) := by
 obtain ⟨A, c, rfl, hk⟩ := h
 obtain ⟨n, hn⟩ : ∃ n, t.kids.length = n := ⟨_, rfl⟩
 obtain ⟨l, hl⟩ : ∃ l, t.list = l := ⟨_, rfl⟩
 obtain ⟨tk, htk⟩ : ∃ tk, t.tok = tk := ⟨_, rfl⟩
 have hT : IsT (boxed w l tk A n c) t (tv l tk A n c) := by
  rw [← hn, ← hl, ← htk]
  exact ⟨A, c, rfl, hk.up (Ext.alloc w _)⟩
 have hK : Kids (boxed (boxed w l tk A n c) l tk A n c) [t] (.slice (some ⟨w.heap.size + 1, 0, none⟩) 1 1) := by
  have := kids_one hT
  rwa [show (boxed w l tk A n c).heap.size = w.heap.size + 1 by simp] at this
 obtain ⟨z, hz⟩ : ∃ z, min (M.cnt t) 401 = z := ⟨_, rfl⟩
 have H := hid (show Calls Tryz.prog 152 #[.int .i64 0, .slice (some ⟨w.heap.size + 1, 0, none⟩) 1 1] (boxed (boxed w l tk A n c) l tk A n c) (GivesI (boxed (boxed w l tk A n c) l tk A n c) (z : Int)) by
  have := countedU_n (M.cnts [t] + 1) (m := 0) (Nat.lt_succ_self _) hK (by omega)
  rw [show M.cnts [t] = M.cnt t by simp [M.cnts], Nat.zero_add, hz] at this
  exact this)
 rw [hn, hl, htk, hz]
 clear hk hT hn hl htk hK hz
 go_enter Tryz.func103, Tryz.ntmps103
 go_wp2_with fail
 refine H.out.mono ?_
 rintro e w' ⟨rfl, hb⟩
 have E := hid hb
 clear hb
 go_wp2
 go_ret
 exact ⟨rfl, ((Ext.alloc w _).alloc' _).trans E.out⟩
set_option maxHeartbeats 4000000 in
theorem deepest_n : ∀ (N : Nat) {ks : List M.T} {v : Value} {m : Nat} {w : World}, M.cnts ks < N → Kids w ks v → m ≤ 61 → Calls Tryz.prog 153 #[.int .i64 (m : Int), v] w (GivesI w ((min (m + M.deps ks) 61 : Nat) : Int)) := by
 intro N
 induction N with
 | zero => intro ks v m w h; omega
 | succ N ih =>
  intro ks v m w hN hk hm
  obtain ⟨A, c, rfl⟩ := hk.shape
  obtain ⟨hl1, hl2, hl3⟩ := hk.le
  have hl4 : c ≤ 9223372036854775807 := by unfold maxLen at hl3; omega
  obtain ⟨n, hn⟩ : ∃ n, ks.length = n := ⟨_, rfl⟩
  obtain ⟨z, hz⟩ : ∃ z, min (m + M.deps ks) 61 = z := ⟨_, rfl⟩
  rw [hz]
  rw [hn] at hk hl2 ⊢
  have HK := hid hk
  have IH := @hid _ @ih
  have HZ := hid (show z = min (m + M.deps (ks.take n)) 61 by rw [← hn, List.take_length, ← hz])
  have HNN := hid hN
  have HM := hid (show ∀ k, k ≤ n → m + M.deps (ks.take k) ≤ m + M.deps (ks.take n) from fun k hk => by
   have h2 := congrArg M.deps (List.take_append_drop k (ks.take n))
   rw [M.deps_app, List.take_take, Nat.min_eq_left hk] at h2
   omega)
  clear hk ih hn hl1 hl3 hz hN
  go_enter Tryz.func153, Tryz.ntmps153
  go_wp2_with fail
  go_loopw [5, 11] (fun x i wr => ∃ (k s : Nat), x = .int .i64 (s : Int) ∧ i = .int .i64 (k : Int) ∧ k ≤ n ∧ s ≤ 61 ∧ Hid (s = min (m + M.deps (ks.take k)) 61 ∧ Ext w wr)) (fun _ i _ => n - (intOf i).toNat)
  case atStart => exact ⟨0, m, rfl, rfl, Nat.zero_le _, hm, by simp [M.deps]; omega, Ext.refl _⟩
  case round =>
   obtain ⟨k, s, rfl, rfl, hk, hs, hR⟩ := hrel
   have E := hid hR.out.2
   have HS := hid hR.out.1
   clear hR
   rcases Nat.lt_or_ge k n with hlt | hge
   ·have hlt' : (k : Int) < (n : Int) := by omega
    obtain ⟨ad, u, B, d, rfl, hu, c0, c1, c2, c3, hv⟩ := (HK.out.up E.out).get hlt
    have HU := hid hu
    rcases Nat.lt_or_ge 60 s with h4 | h4
    ·have hq : 60 < (s : Int) := by omega
     clear hu hv
     go_wp2
     go_ret
     obtain rfl : s = z := by
      have h1 := HS.out
      have h2 := HZ.out
      have h3 := HM.out k hk
      omega
     exact ⟨rfl, E.out.alloc' _⟩
    ·have hq : decide (60 < (s : Int)) = false := by simp; omega
     obtain ⟨b, hb⟩ : ∃ b, u.list = b := ⟨_, rfl⟩
     rw [hb] at c0
     cases b
     ·have HD := hid (show M.dep u = 0 by rw [M.T.eta u, M.dep, hb]; rfl)
      clear hu hv hb
      go_wp2_with fail
      go_roundw
      case rel => exact ⟨k + 1, s, rfl, by simp, by omega, hs, by
       have h1 := HS.out
       have h2 := HD.out
       rw [M.deps_take HU.out, h2]; omega, E.out.alloc' _⟩
      case measure => simp [intOf]; omega
     ·have HD := hid (show M.dep u = 1 + M.deps u.kids by rw [M.T.eta u, M.dep, hb]; rfl)
      have hms : m ≤ s := by have := HS.out; omega
      obtain ⟨y, hy⟩ : ∃ y, m + 1 = y := ⟨_, rfl⟩
      have hsi : (m : Int) + 1 = (y : Int) := by omega
      obtain ⟨q, hqq⟩ : ∃ q, min (y + M.deps u.kids) 61 = q := ⟨_, rfl⟩
      have hkd := hv.kids
      have HC := hid (show ∀ w', Ext wr w' → Calls Tryz.prog 153 #[.int .i64 (y : Int), .slice B u.kids.length d] w' (GivesI w' (q : Int)) from fun w' e => by
       rw [← hqq]
       refine IH.out ?_ (hkd.up e) (by omega)
       have h1 := M.cnts_take HU.out
       have h2 := M.cnts_take_le ks (k + 1)
       have h3 := HNN.out
       have h4 : M.cnt u = 1 + M.cnts u.kids := by rw [M.T.eta u, M.cnt]; rfl
       omega)
      have hq9 : q ≤ 61 := by omega
      have HQ := hid (show q = min (m + M.dep u) 61 by rw [HD.out, ← hqq, ← hy]; omega)
      clear hu hv hkd hy hqq hb hms
      go_wp2_with (go_at_call 153; refine (HC.out _ (Ext.alloc _ _)).mono ?_; rintro e w' ⟨rfl, hb⟩; replace E := hid ((E.out.alloc' _).trans hb); clear hb)
      go_roundw
      case rel => exact ⟨k + 1, max s q, by simp <;> omega, by simp, by omega, by omega, by
       have h1 := HS.out
       have h2 := HQ.out
       rw [M.deps_take HU.out]; omega, E.out⟩
      case measure => simp [intOf]; omega
   ·obtain rfl : k = n := by omega
    go_wp2
    go_ret
    obtain rfl : s = z := by rw [HS.out, HZ.out]
    exact ⟨rfl, E.out⟩
theorem deep_t (t : M.T) {v : Value} {w : World} (h : IsT w t v) : Calls Tryz.prog 104 #[v] w (GivesI w ((min (M.dep t) 61 : Nat) : Int)) := by
 obtain ⟨A, c, rfl, hk⟩ := h
 obtain ⟨n, hn⟩ : ∃ n, t.kids.length = n := ⟨_, rfl⟩
 obtain ⟨l, hl⟩ : ∃ l, t.list = l := ⟨_, rfl⟩
 obtain ⟨tk, htk⟩ : ∃ tk, t.tok = tk := ⟨_, rfl⟩
 have hT : IsT (boxed w l tk A n c) t (tv l tk A n c) := by
  rw [← hn, ← hl, ← htk]
  exact ⟨A, c, rfl, hk.up (Ext.alloc w _)⟩
 have hK : Kids (boxed (boxed w l tk A n c) l tk A n c) [t] (.slice (some ⟨w.heap.size + 1, 0, none⟩) 1 1) := by
  have := kids_one hT
  rwa [show (boxed w l tk A n c).heap.size = w.heap.size + 1 by simp] at this
 obtain ⟨z, hz⟩ : ∃ z, min (M.dep t) 61 = z := ⟨_, rfl⟩
 have H := hid (show Calls Tryz.prog 153 #[.int .i64 0, .slice (some ⟨w.heap.size + 1, 0, none⟩) 1 1] (boxed (boxed w l tk A n c) l tk A n c) (GivesI (boxed (boxed w l tk A n c) l tk A n c) (z : Int)) by
  have := deepest_n (M.cnts [t] + 1) (m := 0) (Nat.lt_succ_self _) hK (by omega)
  rw [show M.deps [t] = M.dep t by simp [M.deps], Nat.zero_add, hz] at this
  exact this)
 rw [hn, hl, htk, hz]
 clear hk hT hn hl htk hK hz
 go_enter Tryz.func104, Tryz.ntmps104
 go_wp2_with fail
 refine H.out.mono ?_
 rintro e w' ⟨rfl, hb⟩
 have E := hid hb
 clear hb
 go_wp2
 go_ret
 exact ⟨rfl, ((Ext.alloc w _).alloc' _).trans E.out⟩
end Go.Proofs.YtgkofipifjfjhaaGreatDoor.Q

/-
  Contracts of package tree: whether it is a tree.
-/
namespace Go.Proofs.YtgkofipifjfjhaaGreatDoor.Q
set_option linter.unusedSimpArgs false
set_option linter.unusedVariables false
open Go.RowKit

theorem alloc_twoU (w : World) (o o' : Obj) : Ext w ((w.alloc o).alloc o') := (Ext.alloc w _).alloc' _
theorem M.print_one_len (tk : M.Tok) : (M.print [tk]).length ≤ tk.2.length + 1 := by
 rcases h : M.print [tk] with _ | ⟨x, r⟩
 ·simp
 ·have e : M.print [tk] = M.word tk := by simp [M.print]
  rw [← h, e]
  unfold M.word
  split
  ·simp
  ·split
   ·simp
   ·split <;> simp
theorem M.leafOk_no {tk : M.Tok} (h : ¬ (tk.1 = 3 ∨ tk.1 = 4 ∨ tk.1 = 5)) : M.leafOk tk = false := by
 rcases hq : M.leafOk tk with _ | _
 ·rfl
 ·exact absurd (M.leafOk_kind hq) h
theorem M.leafOk_yes {tk : M.Tok} (h : tk.1 = 3 ∨ tk.1 = 4 ∨ tk.1 = 5) : M.leafOk tk = decide (M.wToks (M.print [tk]) = [tk]) := by
 unfold M.leafOk
 rw [show (decide (tk.1 = 3) || (decide (tk.1 = 4) || decide (tk.1 = 5))) = true by simpa using h]
 rfl
set_option maxHeartbeats 8000000 in
theorem plain_n (tk : M.Tok) (htx : tk.2.length ≤ 40) (w : World) : Calls Tryz.prog 154 #[.agg #[.int .i64 tk.1, str tk.2]] w (GivesB w (M.leafOk tk)) := by
 have hpl := M.print_one_len tk
 by_cases hk : tk.1 = 3 ∨ tk.1 = 4 ∨ tk.1 = 5
 case neg =>
  have HZ := hid (M.leafOk_no hk)
  obtain ⟨kd, tx⟩ := tk
  have h3 : (kd == 3) = false := by simp; exact fun e => hk (.inl e)
  have h4 : (kd == 4) = false := by simp; exact fun e => hk (.inr (.inl e))
  have h5 : (kd == 5) = false := by simp; exact fun e => hk (.inr (.inr e))
  clear hk htx hpl
  go_enter Tryz.func154, Tryz.ntmps154
  go_wp2
  go_ret
  rw [HZ.out]
  exact ⟨rfl, Ext.alloc w _⟩
 case pos =>
  obtain ⟨q, hq⟩ : ∃ q, M.leafOk tk = q := ⟨_, rfl⟩
  have HQ := hid (show decide (M.wToks (M.print [tk]) = [tk]) = q by rw [← hq, M.leafOk_yes hk])
  have HP := hid (show ∀ (w : World) (v : Value), TList w v [tk] → Calls Tryz.prog 197 #[v] w (GivesT w (M.print [tk])) from fun w v h => print_n h (by omega) (by intro t ht; simp at ht; subst ht; omega))
  have HW := hid (fun (w : World) => words_n (M.print [tk]) (by omega) w)
  obtain ⟨P, hP⟩ : ∃ P, M.print [tk] = P := ⟨_, rfl⟩
  rw [hP] at HP HW HQ
  rw [hq]
  obtain ⟨kd, tx⟩ := tk
  obtain ⟨ts, hts⟩ : ∃ ts, M.wToks P = ts := ⟨_, rfl⟩
  obtain ⟨x, hx⟩ : ∃ x, M.wAt P = x := ⟨_, rfl⟩
  obtain ⟨y, hy⟩ : ∃ y, M.wErr P = y := ⟨_, rfl⟩
  rw [hts] at HW HQ
  rw [hx, hy] at HW
  have HL := hid (show TList ((w.alloc (.cells #[.int .i64 kd, str tx] 23)).alloc (.cells #[.int .i64 kd, str tx] 23)) (.slice (some ⟨w.heap.size + 1, 0, none⟩) 1 1) [(kd, tx)] by
   have := (OwnT.lit 0 (w.alloc (.cells #[.int .i64 kd, str tx] 23)) (kd, tx) (Nat.zero_le _)).list
   simpa using this)
  have HP2 := hid (HP.out _ _ HL.out)
  clear hpl htx hq hP hts hx hy
  rcases hk with rfl | rfl | rfl <;> (
   go_enter Tryz.func154, Tryz.ntmps154
   go_wp2_with (go_at_call 197; refine HP2.out.mono ?_; rintro e w1 ⟨rfl, hb⟩; have E1 := hid ((alloc_twoU w _ _).trans hb); have HT := hid (HL.out.up hb); clear hb)
   refine (HW.out _).mono ?_
   rintro e w2 ⟨v2, rfl, hv2, hb⟩
   obtain ⟨B, d, rfl⟩ := hv2.shape
   have HS := hid (same_n hv2 (HT.out.up hb))
   replace E1 := hid (E1.out.trans hb)
   rw [HQ.out] at HS
   clear hb hv2 HT
   go_wp2_with (go_at_call 198; refine HS.out.mono ?_; rintro e w3 ⟨rfl, hb⟩; replace E1 := hid (E1.out.trans hb); clear hb)
   go_ret
   exact ⟨rfl, E1.out⟩)
set_option maxHeartbeats 8000000 in
theorem formedU_n (t : M.T) : ∀ {v : Value} {w : World}, IsT w t v → M.txtN t = true → Calls Tryz.prog 105 #[v] w (GivesB w (M.formT t)) := by
 refine M.T.indA (P := fun t => ∀ {v : Value} {w : World}, IsT w t v → M.txtN t = true → Calls Tryz.prog 105 #[v] w (GivesB w (M.formT t))) (fun l tk ks ih v w h htx => ?_) t
 obtain ⟨A, c, rfl, hk⟩ := h
 replace hk : Kids w ks (.slice A ks.length c) := hk
 show Calls Tryz.prog 105 #[tv l tk A ks.length c] w _
 rw [M.txtN, Bool.and_eq_true, decide_eq_true_iff] at htx
 obtain ⟨hl1, hl2, hl3⟩ := hk.le
 have hl4 : c ≤ 9223372036854775807 := by unfold maxLen at hl3; omega
 obtain ⟨n, hn⟩ : ∃ n, ks.length = n := ⟨_, rfl⟩
 obtain ⟨z, hz⟩ : ∃ z, M.formT (.mk l tk ks) = z := ⟨_, rfl⟩
 have hz' : z = if l = true then M.formTs ks && decide (tk = (0, [])) else ks.isEmpty && M.leafOk tk := by rw [← hz, M.formT]
 rw [hz]
 rw [hn] at hk hl2 ⊢
 have HN := hid hn
 clear hl1 hl3 hz
 cases l with
 | false =>
  have HP := hid (fun w => plain_n tk htx.1 w)
  obtain ⟨q, hq⟩ : ∃ q, M.leafOk tk = q := ⟨_, rfl⟩
  have hz3 : z = (decide (n = 0) && q) := by
   rw [hz', hq, ← hn]
   cases ks <;> simp
  rw [hq] at HP
  clear hz' hk ih htx hq hn
  obtain ⟨kd, tx⟩ := tk
  by_cases hn0 : n = 0
  case neg =>
   have HZ := hid (show false = z by rw [hz3, decide_eq_false hn0, Bool.false_and])
   have hq : ((n : Int) == 0) = false := by simp; omega
   clear hz3 hn0
   go_enter Tryz.func105, Tryz.ntmps105
   go_wp2
   go_ret
   obtain rfl := HZ.out
   exact ⟨rfl, Ext.alloc w _⟩
  case pos =>
   subst hn0
   have HZ := hid (show q = z by rw [hz3, decide_eq_true rfl, Bool.true_and])
   clear hz3
   go_enter Tryz.func105, Tryz.ntmps105
   go_wp2_with (go_at_call 154; refine (HP.out _).mono ?_; rintro e w1 ⟨rfl, hb⟩; have E1 := hid ((Ext.alloc w _).trans hb); clear hb)
   go_ret
   obtain rfl := HZ.out
   exact ⟨rfl, E1.out⟩
 | true =>
  have HZ := hid (show z = (M.formTs ks && decide (tk = (0, []))) by rw [hz']; rfl)
  have HK := hid hk
  have IH := hid ih
  have HT := hid htx.2
  clear hk ih hz' htx hn
  go_enter Tryz.func105, Tryz.ntmps105
  go_wp2_with fail
  go_loopw [20] (fun i wr => ∃ (k : Nat), i = .int .i64 (k : Int) ∧ k ≤ n ∧ Hid (M.formTs (ks.take k) = true ∧ Ext (boxed w true tk A n c) wr)) (fun i _ => n - (intOf i).toNat)
  case atStart => exact ⟨0, rfl, Nat.zero_le _, by simp [M.formTs], Ext.refl _⟩
  case round =>
   obtain ⟨k, rfl, hk, hR⟩ := hrel
   have E := hid hR.out.2
   obtain ⟨b0, b1, b2, b3, hz⟩ := box4 E.out
   have HS := hid hR.out.1
   clear hR
   rcases Nat.lt_or_ge k n with hlt | hge
   ·have hlt' : (k : Int) < (n : Int) := by omega
    obtain ⟨ad, u, B, d, rfl, hu, c0, c1, c2, c3, hv⟩ := (HK.out.up ((Ext.alloc w _).trans E.out)).get hlt
    have HU := hid hu
    have HV := hid hv
    have HC := hid (show ∀ w', Ext wr w' → Calls Tryz.prog 105 #[tv u.list u.tok B u.kids.length d] w' (GivesB w' (M.formT u)) from fun w' e => IH.out k u HU.out (HV.out.up e) (M.txtNs_at HT.out HU.out))
    obtain ⟨q, hq'⟩ : ∃ q, M.formT u = q := ⟨_, rfl⟩
    have HQ := hid hq'
    rw [hq'] at HC
    clear hu hv hq'
    cases q
    ·go_wp2_with (go_at_call 105; refine (HC.out _ (Ext.alloc _ _)).mono ?_; rintro e w' ⟨rfl, hb⟩; replace E := hid ((E.out.alloc' _).trans hb); clear hb)
     go_ret
     obtain rfl : false = z := by rw [HZ.out, M.not_formTs HU.out HQ.out]; rfl
     exact ⟨rfl, (Ext.alloc w _).trans E.out⟩
    ·go_wp2_with (go_at_call 105; refine (HC.out _ (Ext.alloc _ _)).mono ?_; rintro e w' ⟨rfl, hb⟩; replace E := hid ((E.out.alloc' _).trans hb); clear hb)
     go_roundw
     case rel => exact ⟨k + 1, by simp, by omega, by rw [M.formTs_take HU.out, HS.out, HQ.out]; rfl, E.out⟩
     case measure => simp [intOf]; omega
   ·obtain rfl : k = n := by omega
    have HS2 := hid (show z = decide (tk = (0, [])) by rw [HZ.out, ← List.take_length (l := ks), HN.out, HS.out]; rfl)
    obtain ⟨kd, tx⟩ := tk
    by_cases hk0 : kd = 0
    ·subst hk0
     by_cases htx0 : tx = []
     ·subst htx0
      go_wp2
      go_ret
      obtain rfl : true = z := by rw [HS2.out]; rfl
      exact ⟨rfl, (Ext.alloc w _).trans E.out⟩
     ·go_wp2
      go_ret
      obtain rfl : false = z := by rw [HS2.out]; simp [htx0]
      exact ⟨rfl, (Ext.alloc w _).trans E.out⟩
    ·go_wp2
     go_ret
     obtain rfl : false = z := by rw [HS2.out]; simp [hk0]
     exact ⟨rfl, (Ext.alloc w _).trans E.out⟩
theorem isU_t (t : M.T) {v : Value} {w : World} (h : IsT w t v) (htx : M.txtN t = true) : Calls Tryz.prog 60 #[v] w (GivesB w (M.isU t)) := by
 obtain ⟨A, c, rfl, hk⟩ := h
 have HT : Hid (∀ w', Ext w w' → IsT w' t (tv t.list t.tok A t.kids.length c)) := hid fun w' e => ⟨A, c, rfl, hk.up e⟩
 have HC := hid (fun w' e => countU_t t (HT.out w' e))
 have HD := hid (fun w' e => deep_t t (HT.out w' e))
 have HI := hid (fun w' e => formedU_n t (HT.out w' e) htx)
 obtain ⟨n, hn⟩ : ∃ n, min (M.cnt t) 401 = n := ⟨_, rfl⟩
 obtain ⟨d, hd⟩ : ∃ d, min (M.dep t) 61 = d := ⟨_, rfl⟩
 obtain ⟨q, hq⟩ : ∃ q, M.formT t = q := ⟨_, rfl⟩
 obtain ⟨z, hz⟩ : ∃ z, M.isU t = z := ⟨_, rfl⟩
 have hz' : z = (decide (n ≤ 400) && (decide (d ≤ 60) && q)) := by
  rw [← hz, M.isU, hq]
  congr 1
  ·rw [decide_eq_decide]; omega
  ·congr 1
   rw [decide_eq_decide]; omega
 rw [hn] at HC
 rw [hd] at HD
 rw [hq] at HI
 rw [hz]
 obtain ⟨l, tk, ks⟩ := t
 replace hk : Kids w ks (.slice A ks.length c) := hk
 show Calls Tryz.prog 60 #[tv l tk A ks.length c] w _
 obtain ⟨y, hy⟩ : ∃ y, ks.length = y := ⟨_, rfl⟩
 have HC2 := hid (show ∀ w', Ext w w' → Calls Tryz.prog 103 #[tv l tk A y c] w' (GivesI w' (n : Int)) from hy ▸ HC.out)
 have HD2 := hid (show ∀ w', Ext w w' → Calls Tryz.prog 104 #[tv l tk A y c] w' (GivesI w' (d : Int)) from hy ▸ HD.out)
 have HI2 := hid (show ∀ w', Ext w w' → Calls Tryz.prog 105 #[tv l tk A y c] w' (GivesB w' q) from hy ▸ HI.out)
 rw [hy]
 have HZ' := hid hz'
 clear hk HT HC HD HI hn hd hq hz hy htx hz'
 rcases Nat.lt_or_ge 400 n with h400 | h400
 ·have HZ := hid (show false = z by rw [HZ'.out, show decide (n ≤ 400) = false by simp; omega]; rfl)
  have hq4 : decide ((n : Int) ≤ 400) = false := by simp; omega
  go_enter Tryz.func60, Tryz.ntmps60
  go_wp2_with (go_at_call 103; refine (HC2.out _ (Ext.alloc w _)).mono ?_; rintro e w' ⟨rfl, hb⟩; have E := hid hb; clear hb)
  go_ret
  obtain rfl := HZ.out
  exact ⟨rfl, (Ext.alloc w _).trans E.out⟩
 have hq4 : (n : Int) ≤ 400 := by omega
 rcases Nat.lt_or_ge 60 d with h60 | h60
 ·have HZ := hid (show false = z by rw [HZ'.out, show decide (d ≤ 60) = false by simp; omega]; simp)
  have hq6 : decide ((d : Int) ≤ 60) = false := by simp; omega
  go_enter Tryz.func60, Tryz.ntmps60
  go_wp2_with (first | (go_at_call 103; refine (HC2.out _ (Ext.alloc w _)).mono ?_; rintro e w' ⟨rfl, hb⟩; have E := hid hb; clear hb; obtain ⟨b0, b1, b2, b3, hz⟩ := box4 E.out) | (go_at_call 104; refine (HD2.out _ ((Ext.alloc w _).trans E.out)).mono ?_; rintro e w' ⟨rfl, hb⟩; replace E := hid (E.out.trans hb); clear hb))
  go_ret
  obtain rfl := HZ.out
  exact ⟨rfl, (Ext.alloc w _).trans E.out⟩
 have hq6 : (d : Int) ≤ 60 := by omega
 have HZ := hid (show q = z by rw [HZ'.out, show decide (n ≤ 400) = true by simp; omega, show decide (d ≤ 60) = true by simp; omega]; rfl)
 go_enter Tryz.func60, Tryz.ntmps60
 go_wp2_with (first | (go_at_call 103; refine (HC2.out _ (Ext.alloc w _)).mono ?_; rintro e w' ⟨rfl, hb⟩; have E := hid hb; clear hb; obtain ⟨b0, b1, b2, b3, hz⟩ := box4 E.out) | (go_at_call 104; refine (HD2.out _ ((Ext.alloc w _).trans E.out)).mono ?_; rintro e w' ⟨rfl, hb⟩; replace E := hid (E.out.trans hb); clear hb; obtain ⟨b0, b1, b2, b3, hz⟩ := box4 E.out) | (go_at_call 105; refine (HI2.out _ ((Ext.alloc w _).trans E.out)).mono ?_; rintro e w' ⟨rfl, hb⟩; replace E := hid (E.out.trans hb); clear hb))
 go_ret
 obtain rfl := HZ.out
 exact ⟨rfl, (Ext.alloc w _).trans E.out⟩
end Go.Proofs.YtgkofipifjfjhaaGreatDoor.Q

/-
  Layer 9, the reference: the same tree.
-/
namespace Go.Proofs.YtgkofipifjfjhaaGreatDoor.Q
set_option linter.unusedSimpArgs false
set_option linter.unusedVariables false
open Go.RowKit

/-- Two boxes of trees. -/
abbrev boxed2 (w : World) (l : Bool) (tk : M.Tok) (A : Option Addr) (n c : Nat) (l' : Bool) (tk' : M.Tok) (A' : Option Addr) (n' c' : Nat) : World := (boxed w l tk A n c).alloc (.cells #[.bool l', .int .i64 tk'.1, str tk'.2, .slice A' n' c'] 26)
theorem box44 {w wN : World} {x y z u x' y' z' u' : Value} {T T' : TypeId} (h : Ext ((w.alloc (.cells #[x, y, z, u] T)).alloc (.cells #[x', y', z', u'] T')) wN) :
 (wN.cell? ⟨w.heap.size, 0, none⟩ = some x ∧ wN.cell? ⟨w.heap.size, 1, none⟩ = some y ∧ wN.cell? ⟨w.heap.size, 2, none⟩ = some z ∧ wN.cell? ⟨w.heap.size, 3, none⟩ = some u) ∧
 wN.cell? ⟨w.heap.size + 1, 0, none⟩ = some x' ∧ wN.cell? ⟨w.heap.size + 1, 1, none⟩ = some y' ∧ wN.cell? ⟨w.heap.size + 1, 2, none⟩ = some z' ∧ wN.cell? ⟨w.heap.size + 1, 3, none⟩ = some u' := by
 have h1 := (Box.new w #[x, y, z, u] T).alloc (.cells #[x', y', z', u'] T')
 have h2 := Box.at_ (w := w.alloc (.cells #[x, y, z, u] T)) (g := w.heap.size + 1) #[x', y', z', u'] T' (by simp)
 replace h1 := h1.up h
 replace h2 := h2.up h
 exact ⟨⟨h1.k 0, h1.k 1, h1.k 2, h1.k 3⟩, h2.k 0, h2.k 1, h2.k 2, h2.k 3⟩
set_option maxHeartbeats 8000000 in
theorem rSameT_n (t : M.T) : ∀ {t' : M.T} {v v' : Value} {w : World}, IsT w t v → IsT w t' v' → Calls Tryz.prog 23 #[v, v'] w (GivesB w (M.sameT t t')) := by
 refine M.T.indA (P := fun t => ∀ {t' : M.T} {v v' : Value} {w : World}, IsT w t v → IsT w t' v' → Calls Tryz.prog 23 #[v, v'] w (GivesB w (M.sameT t t'))) (fun l tk ks ih t' v v' w h h' => ?_) t
 obtain ⟨l', tk', ks'⟩ := t'
 obtain ⟨A, c, rfl, hk⟩ := h
 obtain ⟨A', c', rfl, hk'⟩ := h'
 replace hk : Kids w ks (.slice A ks.length c) := hk
 replace hk' : Kids w ks' (.slice A' ks'.length c') := hk'
 show Calls Tryz.prog 23 #[tv l tk A ks.length c, tv l' tk' A' ks'.length c'] w _
 obtain ⟨hl1, hl2, hl3⟩ := hk.le
 obtain ⟨hm1, hm2, hm3⟩ := hk'.le
 have hl4 : c ≤ 9223372036854775807 := by unfold maxLen at hl3; omega
 have hm4 : c' ≤ 9223372036854775807 := by unfold maxLen at hm3; omega
 obtain ⟨n, hn⟩ : ∃ n, ks.length = n := ⟨_, rfl⟩
 obtain ⟨n', hn'⟩ : ∃ n', ks'.length = n' := ⟨_, rfl⟩
 obtain ⟨z, hz⟩ : ∃ z, M.sameT (.mk l tk ks) (.mk l' tk' ks') = z := ⟨_, rfl⟩
 have hz' : z = (decide (l = l') && (decide (tk = tk') && (decide (n = n') && M.sameTs ks ks'))) := by rw [← hz, M.sameT, ← hn, ← hn']; rfl
 rw [hz]
 rw [hn] at hk hl2 ⊢
 rw [hn'] at hk' hm2 ⊢
 have HN := hid hn
 clear hl1 hl3 hz hn hm1 hm3 hn'
 by_cases hll : l = l'
 case neg =>
  have HZ := hid (show false = z by rw [hz', decide_eq_false hll]; rfl)
  have hlb : (l == l') = false := by cases l <;> cases l' <;> simp at hll ⊢
  clear hk ih hz' hk' hll
  go_enter Tryz.func23, Tryz.ntmps23
  cases l <;> cases l' <;> simp at hlb <;> clear hlb <;> (
   go_wp2
   go_ret
   obtain rfl := HZ.out
   exact ⟨rfl, (Ext.alloc w _).alloc' _⟩)
 case pos =>
 subst hll
 by_cases htt : tk = tk'
 case neg =>
  have HZ := hid (show false = z by rw [hz', decide_eq_false htt, Bool.false_and, Bool.and_false])
  clear hk ih hz' hk'
  obtain ⟨a, x⟩ := tk
  obtain ⟨b, y⟩ := tk'
  by_cases hab : a = b
  ·subst hab
   have hxy : ¬ x = y := fun e => htt (by rw [e])
   clear htt
   cases l <;> (
    go_enter Tryz.func23, Tryz.ntmps23
    go_wp2
    go_ret
    obtain rfl := HZ.out
    exact ⟨rfl, (Ext.alloc w _).alloc' _⟩)
  ·clear htt
   cases l <;> (
    go_enter Tryz.func23, Tryz.ntmps23
    go_wp2
    go_ret
    obtain rfl := HZ.out
    exact ⟨rfl, (Ext.alloc w _).alloc' _⟩)
 case pos =>
 subst htt
 by_cases hnn : n = n'
 case neg =>
  have HZ := hid (show false = z by rw [hz', decide_eq_false hnn, Bool.false_and, Bool.and_false, Bool.and_false])
  have hq : ((n : Int) == (n' : Int)) = false := by simp; omega
  clear hk ih hz' hk' hnn
  cases l <;> (
   go_enter Tryz.func23, Tryz.ntmps23
   go_wp2
   go_ret
   obtain rfl := HZ.out
   exact ⟨rfl, (Ext.alloc w _).alloc' _⟩)
 case pos =>
 subst hnn
 have HZ := hid (show z = M.sameTs ks ks' by rw [hz', decide_eq_true rfl, decide_eq_true rfl, decide_eq_true rfl, Bool.true_and, Bool.true_and, Bool.true_and])
 have HK := hid hk
 have HK' := hid hk'
 have IH := hid ih
 clear hk ih hz' hk'
 go_enter Tryz.func23, Tryz.ntmps23
 go_wp2_with fail
 go_loopw [5] (fun i wr => ∃ (k : Nat), i = .int .i64 (k : Int) ∧ k ≤ n ∧ Hid (M.sameTs (ks.take k) ks' = true ∧ Ext (boxed2 w l tk A n c l tk A' n c') wr)) (fun i _ => n - (intOf i).toNat)
 case atStart => exact ⟨0, rfl, Nat.zero_le _, by simp [M.sameTs], Ext.refl _⟩
 case round =>
  obtain ⟨k, rfl, hk, hR⟩ := hrel
  have E := hid hR.out.2
  obtain ⟨⟨b0, b1, b2, b3⟩, d0, d1, d2, d3⟩ := box44 E.out
  have HS := hid hR.out.1
  clear hR
  rcases Nat.lt_or_ge k n with hlt | hge
  ·have hlt' : (k : Int) < (n : Int) := by omega
   obtain ⟨ad, u, B, d, rfl, hu, c0, c1, c2, c3, hv⟩ := (HK.out.up (((Ext.alloc w _).alloc' _).trans E.out)).get hlt
   obtain ⟨ad', u', B', d', rfl, hu', e0, e1, e2, e3, hv'⟩ := (HK'.out.up (((Ext.alloc w _).alloc' _).trans E.out)).get hlt
   have HU := hid hu
   have HU' := hid hu'
   have HV := hid hv
   have HV' := hid hv'
   have HC := hid (fun (w' : World) (e : Ext wr w') => IH.out k u HU.out (HV.out.up e) (HV'.out.up e))
   obtain ⟨q, hq⟩ : ∃ q, M.sameT u u' = q := ⟨_, rfl⟩
   have HQ := hid hq
   rw [hq] at HC
   clear hu hv hu' hv' hq
   go_wp2_with fail
   cases q
   ·refine wp_region_D [(0, 0), (1, 0), (2, 0), (3, 0), (4, 0), (5, 0), (6, 0), (7, 0), (8, 0), (9, 0), (10, 1), (11, 0)] fun wd hb => ?_
    have E6 := hid hb
    have b3 := hb.cell b3
    have d3 := hb.cell d3
    replace c0 := hb.cell c0
    replace c1 := hb.cell c1
    replace c2 := hb.cell c2
    replace c3 := hb.cell c3
    replace e0 := hb.cell e0
    replace e1 := hb.cell e1
    replace e2 := hb.cell e2
    replace e3 := hb.cell e3
    clear hb
    refine WE.p 34 (.pointer (some ⟨w.heap.size, 3, none⟩)) ?_
    simp only [Act.put, pA, pB, pC]
    refine WE.q 35 (.slice (some ad) n c) rfl (fun w' hk => by have ce := hk.cell b3; go_simp) ?_
    simp only [Act.put, pA, pB, pC]
    refine WE.p 36 (.int .i64 (k : Int)) ?_
    simp only [Act.put, pA, pB, pC]
    refine WE.p 37 (.pointer (some (ad.add (k * 4)))) ?_
    simp only [Act.put, pA, pB, pC]
    refine WE.q 38 (tv u.list u.tok B u.kids.length d) rfl (fun w' hk => by have x0 := hk.cell c0; have x1 := hk.cell c1; have x2 := hk.cell c2; have x3 := hk.cell c3; go_simp) ?_
    simp only [Act.put, pA, pB, pC]
    refine WE.p 39 (.pointer (some ⟨w.heap.size + 1, 3, none⟩)) ?_
    simp only [Act.put, pA, pB, pC]
    refine WE.q 40 (.slice (some ad') n c') rfl (fun w' hk => by have ce := hk.cell d3; go_simp) ?_
    simp only [Act.put, pA, pB, pC]
    refine WE.p 41 (.int .i64 (k : Int)) ?_
    simp only [Act.put, pA, pB, pC]
    refine WE.p 42 (.pointer (some (ad'.add (k * 4)))) ?_
    simp only [Act.put, pA, pB, pC]
    refine WE.q 43 (tv u'.list u'.tok B' u'.kids.length d') rfl (fun w' hk => by have x0 := hk.cell e0; have x1 := hk.cell e1; have x2 := hk.cell e2; have x3 := hk.cell e3; go_simp) ?_
    simp only [Act.put, pA, pB, pC]
    refine WE.c 44 ((HC.out _ E6.out).mono ?_)
    rintro e w6 ⟨rfl, hb6⟩
    refine ⟨_, rfl, hb6, ?_⟩
    replace E6 := hid (E6.out.trans hb6)
    clear hb6
    simp only [Act.put, pA, pB, pC]
    refine WE.p 45 (.bool true) ?_
    simp only [Act.put, pA, pB, pC]
    refine WE.done ?_
    go_wp2_with fail
    go_ret
    obtain rfl : false = z := by rw [HZ.out, M.not_sameTs HU.out HU'.out HQ.out]
    exact ⟨rfl, ((Ext.alloc w _).alloc' _).trans (E.out.trans E6.out)⟩
   ·refine wp_region_D [(0, 0), (1, 0), (2, 0), (3, 0), (4, 0), (5, 0), (6, 0), (7, 0), (8, 0), (9, 0), (10, 1), (11, 0)] fun wd hb => ?_
    have E6 := hid hb
    have b3 := hb.cell b3
    have d3 := hb.cell d3
    replace c0 := hb.cell c0
    replace c1 := hb.cell c1
    replace c2 := hb.cell c2
    replace c3 := hb.cell c3
    replace e0 := hb.cell e0
    replace e1 := hb.cell e1
    replace e2 := hb.cell e2
    replace e3 := hb.cell e3
    clear hb
    refine WE.p 34 (.pointer (some ⟨w.heap.size, 3, none⟩)) ?_
    simp only [Act.put, pA, pB, pC]
    refine WE.q 35 (.slice (some ad) n c) rfl (fun w' hk => by have ce := hk.cell b3; go_simp) ?_
    simp only [Act.put, pA, pB, pC]
    refine WE.p 36 (.int .i64 (k : Int)) ?_
    simp only [Act.put, pA, pB, pC]
    refine WE.p 37 (.pointer (some (ad.add (k * 4)))) ?_
    simp only [Act.put, pA, pB, pC]
    refine WE.q 38 (tv u.list u.tok B u.kids.length d) rfl (fun w' hk => by have x0 := hk.cell c0; have x1 := hk.cell c1; have x2 := hk.cell c2; have x3 := hk.cell c3; go_simp) ?_
    simp only [Act.put, pA, pB, pC]
    refine WE.p 39 (.pointer (some ⟨w.heap.size + 1, 3, none⟩)) ?_
    simp only [Act.put, pA, pB, pC]
    refine WE.q 40 (.slice (some ad') n c') rfl (fun w' hk => by have ce := hk.cell d3; go_simp) ?_
    simp only [Act.put, pA, pB, pC]
    refine WE.p 41 (.int .i64 (k : Int)) ?_
    simp only [Act.put, pA, pB, pC]
    refine WE.p 42 (.pointer (some (ad'.add (k * 4)))) ?_
    simp only [Act.put, pA, pB, pC]
    refine WE.q 43 (tv u'.list u'.tok B' u'.kids.length d') rfl (fun w' hk => by have x0 := hk.cell e0; have x1 := hk.cell e1; have x2 := hk.cell e2; have x3 := hk.cell e3; go_simp) ?_
    simp only [Act.put, pA, pB, pC]
    refine WE.c 44 ((HC.out _ E6.out).mono ?_)
    rintro e w6 ⟨rfl, hb6⟩
    refine ⟨_, rfl, hb6, ?_⟩
    replace E6 := hid (E6.out.trans hb6)
    clear hb6
    simp only [Act.put, pA, pB, pC]
    refine WE.p 45 (.bool false) ?_
    simp only [Act.put, pA, pB, pC]
    refine WE.done ?_
    go_wp2_with fail
    go_roundw
    case rel => exact ⟨k + 1, by simp, by omega, by rw [M.sameTs_take HU.out HU'.out, HS.out, HQ.out]; rfl, E.out.trans E6.out⟩
    case measure => simp [intOf]; omega
  ·obtain rfl : k = n := by omega
   go_wp2
   go_ret
   obtain rfl : true = z := by rw [HZ.out, ← HS.out, ← HN.out, List.take_length]
   exact ⟨rfl, ((Ext.alloc w _).alloc' _).trans E.out⟩
end Go.Proofs.YtgkofipifjfjhaaGreatDoor.Q

