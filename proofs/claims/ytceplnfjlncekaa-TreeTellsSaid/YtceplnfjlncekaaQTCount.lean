/-
  Layer 9, the reference: how many nodes, how many lists within one another; small enough to be looked at.
-/
import Derived.Test.YtceplnfjlncekaaQTWords
namespace Go.Proofs.Ytceplnfjlncekaa
set_option linter.unusedSimpArgs false
set_option linter.unusedVariables false
open Go.RowKit

theorem box4 {w wN : World} {x y z u : Value} {T : TypeId} (h : Ext (w.alloc (.cells #[x, y, z, u] T)) wN) :
 wN.cell? ⟨w.heap.size, 0, none⟩ = some x ∧ wN.cell? ⟨w.heap.size, 1, none⟩ = some y ∧ wN.cell? ⟨w.heap.size, 2, none⟩ = some z ∧ wN.cell? ⟨w.heap.size, 3, none⟩ = some u ∧ w.heap.size < wN.heap.size := by
 have h1 : (w.alloc (.cells #[x, y, z, u] T)).heap[w.heap.size]? = some (.cells #[x, y, z, u] T (0, 0)) := heap_alloc_new w _
 have h2 : wN.heap[w.heap.size]? = some (.cells #[x, y, z, u] T (0, 0)) := (h.block _ (by simp)).trans h1
 refine ⟨?_, ?_, ?_, ?_, (Array.getElem?_eq_some_iff.1 h2).1⟩
 ·rw [cell_of_row wN _ 0 _ T (0, 0) h2]; rfl
 ·rw [cell_of_row wN _ 1 _ T (0, 0) h2]; rfl
 ·rw [cell_of_row wN _ 2 _ T (0, 0) h2]; rfl
 ·rw [cell_of_row wN _ 3 _ T (0, 0) h2]; rfl
abbrev boxed (w : World) (l : Bool) (tk : M.Tok) (A : Option Addr) (n c : Nat) : World := w.alloc (.cells #[.bool l, .int .i64 tk.1, str tk.2, .slice A n c] 35)
set_option maxHeartbeats 4000000 in
theorem count_n (t : M.T) : ∀ {v : Value} {m : Nat} {w : World}, IsT w t v → 1 ≤ m → m ≤ 401 → Calls Try.prog 34 #[v, .int .i64 (m : Int)] w (GivesI w ((min (M.cnt t) m : Nat) : Int)) := by
 refine M.T.indA (P := fun t => ∀ {v : Value} {m : Nat} {w : World}, IsT w t v → 1 ≤ m → m ≤ 401 → Calls Try.prog 34 #[v, .int .i64 (m : Int)] w (GivesI w ((min (M.cnt t) m : Nat) : Int))) (fun l tk ks ih v m w h hm1 hm => ?_) t
 obtain ⟨A, c, rfl, hk⟩ := h
 replace hk : Kids w ks (.slice A ks.length c) := hk
 show Calls Try.prog 34 #[tv l tk A ks.length c, .int .i64 (m : Int)] w _
 obtain ⟨hl1, hl2, hl3⟩ := hk.le
 have hl4 : c ≤ 9223372036854775807 := by unfold maxLen at hl3; omega
 obtain ⟨n, hn⟩ : ∃ n, ks.length = n := ⟨_, rfl⟩
 obtain ⟨z, hz⟩ : ∃ z, min (M.cnt (.mk l tk ks)) m = z := ⟨_, rfl⟩
 rw [hz]
 rw [hn] at hk hl2 ⊢
 have HK := hid hk
 have IH := hid ih
 have HN := hid hn
 have HZ := hid (show z = min (1 + M.cnts (ks.take n)) m by rw [← hn, List.take_length, ← hz, M.cnt])
 have HM := hid hl3
 clear hk ih hn hl1 hl3 hz
 go_enter Try.func34, Try.ntmps34
 go_wp2_with fail
 go_loopw [5, 6] (fun x i wr => ∃ (k s : Nat), x = .int .i64 (s : Int) ∧ i = .int .i64 (k : Int) ∧ k ≤ n ∧ s ≤ m ∧ Hid (s = min (1 + M.cnts (ks.take k)) m ∧ Ext (boxed w l tk A n c) wr)) (fun _ i _ => n - (intOf i).toNat)
 case atStart => exact ⟨0, 1, rfl, rfl, Nat.zero_le _, hm1, by simp [M.cnts]; omega, Ext.refl _⟩
 case round =>
  obtain ⟨k, s, rfl, rfl, hk, hs, hR⟩ := hrel
  have E := hid hR.out.2
  obtain ⟨b0, b1, b2, b3, hz⟩ := box4 E.out
  have HS := hid hR.out.1
  clear hR
  rcases Nat.lt_or_ge k n with hlt | hge
  ·have hlt' : (k : Int) < (n : Int) := by omega
   rcases Nat.lt_or_ge s m with hsl | hsg
   ·have hsl' : (s : Int) < (m : Int) := by omega
    obtain ⟨ad, u, B, d, rfl, hu, c0, c1, c2, c3, hv⟩ := (HK.out.up ((Ext.alloc w _).trans E.out)).get hlt
    have HU := hid hu
    have HC := hid (IH.out k u HU.out hv (show 1 ≤ m - s by omega) (by omega))
    obtain ⟨q, hq⟩ : ∃ q, min (M.cnt u) (m - s) = q := ⟨_, rfl⟩
    have HQ := hid hq
    have hq9 : q ≤ m - s := by omega
    have HV := hid hv
    rw [hq] at HC
    obtain ⟨y, hy⟩ : ∃ y, m - s = y := ⟨_, rfl⟩
    have hms : ((m : Int) - (s : Int)) = (y : Int) := by omega
    rw [hy] at HC
    have HY := hid hy
    clear hu hv hq hy
    go_wp2_with (go_at_call 34; refine HC.out.mono ?_; rintro e w' ⟨rfl, hb⟩; replace E := hid (E.out.trans hb); clear hb)
    go_roundw
    case rel => exact ⟨k + 1, s + q, by simp, by simp, by omega, by omega, by
     have h1 := HS.out
     have h2 := HQ.out
     rw [M.cnts_take HU.out]; omega, E.out⟩
    case measure => simp [intOf]; omega
   ·obtain rfl : s = m := by omega
    go_wp2
    go_ret
    obtain rfl : s = z := by
     have h1 := HS.out
     have h2 := HZ.out
     have h3 := M.cnts_take_le (ks.take n) k
     rw [List.take_take] at h3
     rw [Nat.min_eq_left (by omega)] at h3
     omega
    exact ⟨rfl, (Ext.alloc w _).trans E.out⟩
  ·obtain rfl : k = n := by omega
   have hmn : min (s : Int) (m : Int) = (s : Int) := by omega
   go_wp2
   go_ret
   obtain rfl : s = z := by rw [HS.out, HZ.out]
   exact ⟨rfl, (Ext.alloc w _).trans E.out⟩
theorem rCount_n (t : M.T) {v : Value} {w : World} (h : IsT w t v) : Calls Try.prog 18 #[v] w (GivesI w ((min (M.cnt t) 401 : Nat) : Int)) := by
 obtain ⟨A, c, rfl, hk⟩ := h
 have H := hid (show Calls Try.prog 34 #[tv t.list t.tok A t.kids.length c, .int .i64 401] (boxed w t.list t.tok A t.kids.length c) (GivesI (boxed w t.list t.tok A t.kids.length c) ((min (M.cnt t) 401 : Nat) : Int)) from count_n t (m := 401) ⟨A, c, rfl, hk.up (Ext.alloc w _)⟩ (by omega) (by omega))
 clear hk
 go_enter Try.func18, Try.ntmps18
 go_wp2_with fail
 refine H.out.mono ?_
 rintro e w' ⟨rfl, hb⟩
 have E := hid hb
 clear hb
 go_wp2
 go_ret
 exact ⟨rfl, (Ext.alloc w _).trans E.out⟩
set_option maxHeartbeats 4000000 in
theorem deep_n (t : M.T) : ∀ {v : Value} {m : Nat} {w : World}, IsT w t v → m ≤ 61 → Calls Try.prog 36 #[v, .int .i64 (m : Int)] w (GivesI w ((min (M.dep t) m : Nat) : Int)) := by
 refine M.T.indA (P := fun t => ∀ {v : Value} {m : Nat} {w : World}, IsT w t v → m ≤ 61 → Calls Try.prog 36 #[v, .int .i64 (m : Int)] w (GivesI w ((min (M.dep t) m : Nat) : Int))) (fun l tk ks ih v m w h hm => ?_) t
 obtain ⟨A, c, rfl, hk⟩ := h
 replace hk : Kids w ks (.slice A ks.length c) := hk
 show Calls Try.prog 36 #[tv l tk A ks.length c, .int .i64 (m : Int)] w _
 obtain ⟨hl1, hl2, hl3⟩ := hk.le
 have hl4 : c ≤ 9223372036854775807 := by unfold maxLen at hl3; omega
 obtain ⟨n, hn⟩ : ∃ n, ks.length = n := ⟨_, rfl⟩
 obtain ⟨z, hz⟩ : ∃ z, min (M.dep (.mk l tk ks)) m = z := ⟨_, rfl⟩
 rw [hz]
 rw [hn] at hk hl2 ⊢
 cases l with
 | false =>
  have HZ := hid (show 0 = z by rw [← hz, M.dep]; simp)
  clear hk ih hn hl1 hl3 hz
  go_enter Try.func36, Try.ntmps36
  go_wp2
  go_ret
  obtain rfl := HZ.out
  exact ⟨rfl, Ext.alloc w _⟩
 | true =>
  rcases Nat.eq_zero_or_pos m with rfl | hmp
  ·have HZ := hid (show 0 = z by rw [← hz]; simp)
   clear hk ih hn hl1 hl3 hz
   go_enter Try.func36, Try.ntmps36
   go_wp2
   go_ret
   obtain rfl := HZ.out
   exact ⟨rfl, Ext.alloc w _⟩
  ·have hmq : ((m : Int) == 0) = false := by simp; omega
   have HK := hid hk
   have IH := hid ih
   have HN := hid hn
   have HZ := hid (show z = min (M.deps (ks.take n)) (m - 1) + 1 by rw [← hn, List.take_length, ← hz, M.dep]; simp; omega)
   clear hk ih hn hl1 hl3 hz
   obtain ⟨y, hy⟩ : ∃ y, m - 1 = y := ⟨_, rfl⟩
   have hms : ((m : Int) - 1) = (y : Int) := by omega
   rw [hy] at HZ
   have hy9 : y ≤ 61 := by omega
   have HY := hid hy
   clear hy
   go_enter Try.func36, Try.ntmps36
   go_wp2_with fail
   go_loopw [5, 6] (fun x i wr => ∃ (k s : Nat), x = .int .i64 (s : Int) ∧ i = .int .i64 (k : Int) ∧ k ≤ n ∧ s ≤ 61 ∧ Hid (s = min (M.deps (ks.take k)) y ∧ Ext (boxed w true tk A n c) wr)) (fun _ i _ => n - (intOf i).toNat)
   case atStart => exact ⟨0, 0, rfl, rfl, Nat.zero_le _, by omega, by simp [M.deps], Ext.refl _⟩
   case round =>
    obtain ⟨k, s, rfl, rfl, hk, hs, hR⟩ := hrel
    have E := hid hR.out.2
    obtain ⟨b0, b1, b2, b3, hz⟩ := box4 E.out
    have HS := hid hR.out.1
    clear hR
    rcases Nat.lt_or_ge k n with hlt | hge
    ·have hlt' : (k : Int) < (n : Int) := by omega
     obtain ⟨ad, u, B, d, rfl, hu, c0, c1, c2, c3, hv⟩ := (HK.out.up ((Ext.alloc w _).trans E.out)).get hlt
     have HU := hid hu
     have HC := hid (IH.out k u HU.out hv (show y ≤ 61 by omega))
     obtain ⟨q, hq⟩ : ∃ q, min (M.dep u) y = q := ⟨_, rfl⟩
     have HQ := hid hq
     have hq9 : q ≤ 61 := by omega
     have HV := hid hv
     rw [hq] at HC
     clear hu hv hq
     go_wp2_with (go_at_call 36; refine HC.out.mono ?_; rintro e w' ⟨rfl, hb⟩; replace E := hid (E.out.trans hb); clear hb)
     go_roundw
     case rel => exact ⟨k + 1, max s q, by simp <;> omega, by simp, by omega, by omega, by
      have h1 := HS.out
      have h2 := HQ.out
      rw [M.deps_take HU.out]; omega, E.out⟩
     case measure => simp [intOf]; omega
    ·obtain rfl : k = n := by omega
     go_wp2
     go_ret
     obtain rfl : s + 1 = z := by rw [HS.out, HZ.out]
     exact ⟨by simp, (Ext.alloc w _).trans E.out⟩
theorem rDeep_n (t : M.T) {v : Value} {w : World} (h : IsT w t v) : Calls Try.prog 20 #[v] w (GivesI w ((min (M.dep t) 61 : Nat) : Int)) := by
 obtain ⟨A, c, rfl, hk⟩ := h
 have H := hid (show Calls Try.prog 36 #[tv t.list t.tok A t.kids.length c, .int .i64 61] (boxed w t.list t.tok A t.kids.length c) (GivesI (boxed w t.list t.tok A t.kids.length c) ((min (M.dep t) 61 : Nat) : Int)) from deep_n t (m := 61) ⟨A, c, rfl, hk.up (Ext.alloc w _)⟩ (by omega))
 clear hk
 go_enter Try.func20, Try.ntmps20
 go_wp2_with fail
 refine H.out.mono ?_
 rintro e w' ⟨rfl, hb⟩
 have E := hid hb
 clear hb
 go_wp2
 go_ret
 exact ⟨rfl, (Ext.alloc w _).trans E.out⟩
end Go.Proofs.Ytceplnfjlncekaa
