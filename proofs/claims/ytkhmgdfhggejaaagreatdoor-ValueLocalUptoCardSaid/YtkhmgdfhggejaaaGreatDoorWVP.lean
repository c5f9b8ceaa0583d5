/-
  Layer 12's laws: fewNames, fewTerm (the same words as layer 10's).
-/
import Derived.Test.YtkhmgdfhggejaaaGreatDoorWJKA
import Derived.Test.YtkhmgdfhggejaaaGreatDoorWVN
import Derived.Test.YtkhmgdfhggejaaaGreatDoorWVG
import Derived.Test.YtkhmgdfhggejaaaGreatDoorWKNamesB
import Derived.Test.YtkhmgdfhggejaaaGreatDoorWVM
import Derived.Test.YtkhmgdfhggejaaaGreatDoorWKIs
import Derived.Test.YtkhmgdfhggejaaaGreatDoorRows
namespace Go.Proofs.YtkhmgdfhggejaaaGreatDoor.Q
set_option linter.unusedSimpArgs false
set_option linter.unusedVariables false
open Go.RowKit

namespace M
mutual
/-- Names and numbers as short as layer 12's laws want them. -/
def vfew : Tm → Bool
 | .mk _ _ ls nm _ ks => decide (nm.length ≤ 30) && (decide (ls.length ≤ 4) && vfews ks)
def vfews : List Tm → Bool
 | [] => true
 | t :: r => vfew t && vfews r
end
theorem vfews_app (a b : List Tm) : vfews (a ++ b) = (vfews a && vfews b) := by
 induction a with
 | nil => simp [vfews]
 | cons x r ih => simp [vfews, ih, Bool.and_assoc]
theorem vfews_take {ks : List Tm} {k : Nat} {t : Tm} (h : ks[k]? = some t) : vfews (ks.take (k + 1)) = (vfews (ks.take k) && vfew t) := by
 rw [List.take_add_one, h, vfews_app]; simp [vfews]
theorem vfews_at : ∀ {ks : List Tm} {k : Nat} {t : Tm}, vfews ks = true → ks[k]? = some t → vfew t = true
 | [], _, _, _, h => by simp at h
 | x :: r, 0, t, h, e => by simp at e; subst e; rw [vfews, Bool.and_eq_true] at h; exact h.1
 | x :: r, k + 1, t, h, e => by rw [vfews, Bool.and_eq_true] at h; exact vfews_at h.2 (k := k) (by simpa using e)
theorem not_vfews {ks : List Tm} {k : Nat} {t : Tm} (e : ks[k]? = some t) (h : vfew t = false) : vfews ks = false := by
 rcases hq : vfews ks with _ | _
 ·rfl
 ·rw [vfews_at hq e] at h; cases h
/-- Small enough to be looked at. -/
def vfewT (t : Tm) : Bool := decide (kcnt t ≤ 120) && vfew t
mutual
theorem vfew_kfew : ∀ {t : Tm}, vfew t = true → kfew t = true
 | .mk op g ls nm s ks, h => by
  rw [vfew, Bool.and_eq_true, Bool.and_eq_true] at h
  rw [kfew, Bool.and_eq_true, Bool.and_eq_true]
  have h2 := of_decide_eq_true h.2.1
  exact ⟨h.1, decide_eq_true (by omega), vfews_kfews h.2.2⟩
theorem vfews_kfews : ∀ {l : List Tm}, vfews l = true → kfews l = true
 | [], _ => by rw [kfews]
 | t :: r, h => by
  rw [vfews, Bool.and_eq_true] at h
  rw [kfews, Bool.and_eq_true]
  exact ⟨vfew_kfew h.1, vfews_kfews h.2⟩
end
end M
set_option maxHeartbeats 4000000 in
theorem fewNamesV_n (t : M.Tm) : ∀ {v : Value} {w : World}, IsTm w t v → Calls Tryz.prog 32 #[v] w (GivesB w (M.vfew t)) := by
 refine M.Tm.indA (P := fun t => ∀ {v : Value} {w : World}, IsTm w t v → Calls Tryz.prog 32 #[v] w (GivesB w (M.vfew t))) (fun op g ls nm so ks ih v w h => ?_) t
 obtain ⟨N, nn, nc, A, c, rfl, hn, hk⟩ := h
 replace hk : Tms w ks (.slice A ks.length c) := hk
 show Calls Tryz.prog 32 #[kv op g N nn nc nm so A ks.length c] w _
 obtain ⟨hl1, hl2, hl3⟩ := hk.le
 obtain ⟨hm1, hm2, hm3⟩ := LNum.len hn
 replace hm1 : nn = ls.length := hm1
 have hm4 : nc ≤ 9223372036854775807 := by unfold maxLen at hm3; omega
 obtain ⟨n, hn'⟩ : ∃ n, ks.length = n := ⟨_, rfl⟩
 obtain ⟨x, hx⟩ : ∃ x, x = nm.length := ⟨_, rfl⟩
 have hsz : (⟨nm.toArray⟩ : ByteArray).size = x := by rw [Lib.size_eq, hx]
 have hsz2 : (nm.length : Int) = (x : Int) := by rw [hx]
 obtain ⟨z, hz⟩ : ∃ z, M.vfew (.mk op g ls nm so ks) = z := ⟨_, rfl⟩
 have hz' : z = (decide (x ≤ 30) && (decide (nn ≤ 4) && M.vfews ks)) := by rw [← hz, M.vfew, hx, hm1]
 rw [hz]
 rw [hn'] at hk hl2 ⊢
 have HN := hid hn'
 clear hx hl1 hz hn' hm1 hm3 hn
 rcases Nat.lt_or_ge 30 x with h30 | h30
 ·have HZ := hid (show false = z by rw [hz', show decide (x ≤ 30) = false by simp; omega]; simp)
  have hq : 30 < (x : Int) := by omega
  clear hk ih hz'
  go_enter Tryz.func32, Tryz.ntmps32
  go_wp2
  go_ret
  obtain rfl := HZ.out
  exact ⟨rfl, Ext.alloc w _⟩
 have hq : decide (30 < (x : Int)) = false := by simp; omega
 rcases Nat.lt_or_ge 4 nn with h4 | h4
 ·have HZ := hid (show false = z by rw [hz', show decide (nn ≤ 4) = false by simp; omega]; simp)
  have hq2 : 4 < (nn : Int) := by omega
  clear hk ih hz'
  go_enter Tryz.func32, Tryz.ntmps32
  go_wp2
  go_ret
  obtain rfl := HZ.out
  exact ⟨rfl, Ext.alloc w _⟩
 have hq2 : decide (4 < (nn : Int)) = false := by simp; omega
 have HZ := hid (show z = M.vfews ks by rw [hz', show decide (x ≤ 30) = true by simp; omega, show decide (nn ≤ 4) = true by simp; omega]; rfl)
 have HK := hid hk
 have IH := @hid _ @ih
 clear hk ih hz'
 go_enter Tryz.func32, Tryz.ntmps32
 go_wp2_with fail
 go_loopw [3] (fun i wr => ∃ (k : Nat), i = .int .i64 (k : Int) ∧ k ≤ n ∧ Hid (M.vfews (ks.take k) = true ∧ Ext (kboxed w op g N nn nc nm so A n c) wr)) (fun i _ => n - (intOf i).toNat)
 case atStart => exact ⟨0, rfl, Nat.zero_le _, by simp [M.vfews], Ext.refl _⟩
 case round =>
  obtain ⟨k, rfl, hk, hR⟩ := hrel
  have E := hid hR.out.2
  obtain ⟨⟨b0, b1, b2, b3, b4, b5⟩, hz⟩ := box6 E.out
  have HS := hid hR.out.1
  clear hR
  rcases Nat.lt_or_ge k n with hlt | hge
  ·have hlt' : (k : Int) < (n : Int) := by omega
   obtain ⟨ad, u, N', nn', nc', B, d, rfl, hu, ⟨c0, c1, c2, c3, c4, c5⟩, hv⟩ := (HK.out.up ((Ext.alloc w _).trans E.out)).get hlt
   have HU := hid hu
   have HC := hid (IH.out k u HU.out hv)
   obtain ⟨q, hq'⟩ : ∃ q, M.vfew u = q := ⟨_, rfl⟩
   have HQ := hid hq'
   have HV := hid hv
   rw [hq'] at HC
   clear hu hv hq'
   cases q
   ·go_wp2_with (go_at_call 32; refine HC.out.mono ?_; rintro e w' ⟨rfl, hb⟩; replace E := hid (E.out.trans hb); clear hb)
    go_ret
    obtain rfl : false = z := by rw [HZ.out, M.not_vfews HU.out HQ.out]
    exact ⟨rfl, (Ext.alloc w _).trans E.out⟩
   ·go_wp2_with (go_at_call 32; refine HC.out.mono ?_; rintro e w' ⟨rfl, hb⟩; replace E := hid (E.out.trans hb); clear hb)
    go_roundw
    case rel => exact ⟨k + 1, by simp, by omega, by rw [M.vfews_take HU.out, HS.out, HQ.out]; rfl, E.out⟩
    case measure => simp [intOf]; omega
  ·obtain rfl : k = n := by omega
   go_wp2
   go_ret
   obtain rfl : true = z := by rw [HZ.out, ← HS.out, ← HN.out, List.take_length]
   exact ⟨rfl, (Ext.alloc w _).trans E.out⟩
theorem fewTermV_n (t : M.Tm) {v : Value} {w : World} (h : IsTm w t v) : Calls Tryz.prog 8 #[v] w (GivesB w (M.vfewT t)) := by
 obtain ⟨N, nn, nc, A, n, c, rfl, -, -, -, -, -, -⟩ := h.shape
 obtain ⟨op, hop⟩ : ∃ x, t.op = x := ⟨_, rfl⟩
 obtain ⟨g, hg⟩ : ∃ x, t.g = x := ⟨_, rfl⟩
 obtain ⟨nm, hnm⟩ : ∃ x, t.name = x := ⟨_, rfl⟩
 obtain ⟨so, hso⟩ : ∃ x, t.sort = x := ⟨_, rfl⟩
 rw [hop, hg, hnm, hso] at h ⊢
 obtain ⟨m, hm⟩ : ∃ m, min (M.kcnt t) 401 = m := ⟨_, rfl⟩
 obtain ⟨q, hq⟩ : ∃ q, M.vfew t = q := ⟨_, rfl⟩
 have H := hid (show ∀ w', Ext w w' → Calls Tryz.prog 31 #[kv op g N nn nc nm so A n c] w' (GivesI w' (m : Int)) from fun w' e => hm ▸ rkCount_n t (h.up e))
 have HF := hid (show ∀ w', Ext w w' → Calls Tryz.prog 32 #[kv op g N nn nc nm so A n c] w' (GivesB w' q) from fun w' e => hq ▸ fewNamesV_n t (h.up e))
 have HM := hid (show M.vfewT t = (decide ((m : Int) ≤ 120) && q) by unfold M.vfewT; rw [hq]; congr 1; rw [decide_eq_decide]; omega)
 rw [HM.out]
 clear h hop hg hnm hso hm hq
 by_cases hm120 : (m : Int) ≤ 120
 ·go_enter Tryz.func8, Tryz.ntmps8
  go_wp2_with fail
  refine (H.out _ (Ext.alloc w _)).mono ?_
  rintro e w' ⟨rfl, hb⟩
  have E := hid hb
  obtain ⟨⟨b0, b1, b2, b3, b4, b5⟩, hz⟩ := box6 hb
  clear hb
  go_wp2_with fail
  refine (HF.out _ ((Ext.alloc w _).trans E.out)).mono ?_
  rintro e w2 ⟨rfl, hb⟩
  replace E := hid (E.out.trans hb)
  clear hb
  go_wp2_with fail
  go_ret
  exact ⟨by rw [decide_eq_true hm120]; rfl, (Ext.alloc w _).trans E.out⟩
 ·have hq2 : decide ((m : Int) ≤ 120) = false := by simpa using hm120
  go_enter Tryz.func8, Tryz.ntmps8
  go_wp2_with fail
  refine (H.out _ (Ext.alloc w _)).mono ?_
  rintro e w' ⟨rfl, hb⟩
  have E := hid hb
  obtain ⟨⟨b0, b1, b2, b3, b4, b5⟩, hz⟩ := box6 hb
  clear hb
  go_wp2_with fail
  go_ret
  exact ⟨by rw [hq2]; rfl, (Ext.alloc w _).trans E.out⟩
end Go.Proofs.YtkhmgdfhggejaaaGreatDoor.Q

/-
  Layer 12's laws: a term is worth the same wherever the names that it has are alike, mathematics.
-/
namespace Go.Proofs.YtkhmgdfhggejaaaGreatDoor.Q
set_option linter.unusedSimpArgs false
set_option linter.unusedVariables false
open Go.RowKit
namespace M
theorem kadd_mem {s x : Sg} {p : List Sg × Bool} (h : x ∈ p.1) : x ∈ (kadd s p).1 := by
 have hk : x ∈ p.1.take (kpl s.name p.1) ++ (s :: p.1.drop (kpl s.name p.1)) := by
  rw [← List.take_append_drop (kpl s.name p.1) p.1] at h
  rcases List.mem_append.1 h with h | h
  ·exact List.mem_append_left _ h
  ·exact List.mem_append_right _ (List.mem_cons_of_mem _ h)
 unfold kadd
 split
 ·split
  ·exact h
  ·exact hk
 ·exact hk
theorem kadd_has (s : Sg) (p : List Sg × Bool) : ∃ x ∈ (kadd s p).1, x.name = s.name := by
 have hk : s ∈ p.1.take (kpl s.name p.1) ++ (s :: p.1.drop (kpl s.name p.1)) := List.mem_append_right _ (List.mem_cons_self ..)
 unfold kadd
 split
 ·rename_i x hx
  split
  ·rename_i hn
   exact ⟨x, List.mem_of_getElem? hx, hn⟩
  ·exact ⟨s, hk, rfl⟩
 ·exact ⟨s, hk, rfl⟩
mutual
theorem ksigs_mem : ∀ (t : Tm) (p : List Sg × Bool) {x : Sg}, x ∈ p.1 → x ∈ (ksigs t p).1
 | .mk op g ls nm so ks, p, x, h => by
  rw [ksigs]
  refine ksigss_mem ks _ ?_
  split
  ·exact kadd_mem h
  ·exact h
theorem ksigss_mem : ∀ (l : List Tm) (p : List Sg × Bool) {x : Sg}, x ∈ p.1 → x ∈ (ksigss l p).1
 | [], p, x, h => by rw [ksigss]; exact h
 | t :: r, p, x, h => by rw [ksigss]; exact ksigss_mem r _ (ksigs_mem t p h)
end
mutual
theorem ksigs_has {n : List UInt8} : ∀ (t : Tm) (p : List Sg × Bool), kHas n t = true → ∃ x ∈ (ksigs t p).1, x.name = n
 | .mk op g ls nm so ks, p, h => by
  rw [kHas, Bool.or_eq_true] at h
  rw [ksigs]
  rcases h with h | h
  ·rw [Bool.and_eq_true] at h
   have h1 := of_decide_eq_true h.1
   have h2 := of_decide_eq_true h.2
   rw [if_pos h1]
   obtain ⟨x, hx, hn⟩ := kadd_has ⟨nm, ks.map Tm.sort, so⟩ p
   exact ⟨x, ksigss_mem ks _ hx, hn.trans h2⟩
  ·exact ksigss_has ks _ h
theorem ksigss_has {n : List UInt8} : ∀ (l : List Tm) (p : List Sg × Bool), kHass n l = true → ∃ x ∈ (ksigss l p).1, x.name = n
 | [], p, h => by rw [kHass] at h; cases h
 | t :: r, p, h => by
  rw [kHass, Bool.or_eq_true] at h
  rw [ksigss]
  rcases h with h | h
  ·obtain ⟨x, hx, hn⟩ := ksigs_has t p h
   exact ⟨x, ksigss_mem r _ hx, hn⟩
  ·exact ksigss_has r _ h
end
theorem kHas_no {n : List UInt8} {t : Tm} (h : ∀ x ∈ (kSigs t).1, x.name ≠ n) : kHas n t = false := by
 rcases hq : kHas n t with _ | _
 ·rfl
 ·obtain ⟨x, hx, hn⟩ := ksigs_has t ([], true) hq
  exact absurd hn (h x hx)
theorem mOf_put {nm : List UInt8} {m T D : List Fn} (P : Parts nm m T D) {f : Fn} (hf : f.sg.name = nm) {s : Sg} (hs : nm ≠ s.name) (vs : List Vl) : mOf (T ++ f :: D) s vs = mOf m s vs := by
 have hne : ∀ g : Fn, g.sg.name = nm → decide (g.sg = s) = false := fun g hg => decide_eq_false fun e => hs (by rw [← e, hg])
 have h1 : ∀ g : Fn, g.sg.name = nm → (T ++ g :: D).find? (fun f => decide (f.sg = s)) = (T ++ D).find? (fun f => decide (f.sg = s)) := fun g hg => by
  rw [List.find?_append, List.find?_append, List.find?_cons, hne g hg]
 have h2 : (T ++ f :: D).find? (fun f => decide (f.sg = s)) = m.find? (fun f => decide (f.sg = s)) := by
  rcases P.eq with e | ⟨g, hg, e⟩
  ·rw [e, h1 f hf]
  ·rw [e, h1 f hf, h1 g hg]
 unfold mOf
 rw [h2]
theorem ev_put {nm : List UInt8} {m T D : List Fn} (P : Parts nm m T D) {f : Fn} (hf : f.sg.name = nm) (t : Tm) : kHas nm t = false → ev (T ++ f :: D) t = ev m t := by
 refine Tm.indA (P := fun t => kHas nm t = false → ev (T ++ f :: D) t = ev m t) (fun op g ls n s ks ih h => ?_) t
 have hk : evs (T ++ f :: D) ks = evs m ks := by
  rw [evs_map, evs_map]
  refine List.map_congr_left fun u hu => ?_
  obtain ⟨k, hk⟩ := List.getElem?_of_mem hu
  exact ih k u hk (kHas_kid h hk)
 rw [ev, ev, hk]
 by_cases h4 : op = 4
 ·subst h4
  rw [mOf_put P hf (s := ⟨n, (evs m ks).map (·.1), s⟩) (kHas_name h)]
 ·rw [if_neg h4, if_neg h4]
theorem eval_put {nm : List UInt8} {m T D : List Fn} (P : Parts nm m T D) (hm : mIs m = true) {f : Fn} (hf : f.sg.name = nm) {t : Tm} (hx : mIs (T ++ f :: D) = true) (h : kHas nm t = false) : mEval (T ++ f :: D) t = mEval m t := by
 unfold mEval mRead
 rw [if_pos hx, if_pos hm, ev_put P hf t h]
theorem vSame_refl (x : Vl) : vSame x x = true := by unfold vSame; simp
end M
end Go.Proofs.YtkhmgdfhggejaaaGreatDoor.Q

/-
  Layer 12's laws: ValueLocal.
-/
namespace Go.Proofs.YtkhmgdfhggejaaaGreatDoor.Q
set_option linter.unusedSimpArgs false
set_option linter.unusedVariables false
open Go.RowKit

theorem M.fnOk_wdL {f : M.Fn} (h : M.fnOk f) : M.funWd f ∧ M.fnWd 40 f := by
 obtain ⟨h1, h2, h3, h4, h5⟩ := h
 exact ⟨⟨by omega, by omega, by omega, fun r hr => ⟨by have := (h5 r hr).1; omega, fun x hx => by have := (h5 r hr).2.2 x hx; omega, by have := (h5 r hr).2.1; omega⟩, by omega⟩, by omega, fun r hr => by have := (h5 r hr).2.1; omega⟩
/-- What the put gives, where the name isn't the term's. -/
structure M.LocalOk (nm : List UInt8) (m : List M.Fn) (x : M.Vl) (t : M.Tm) (Y : List M.Fn) : Prop where
 put : M.mPut (M.mRead m) (M.constF nm x) = Y
 len : Y.length ≤ 13
 fw : ∀ f ∈ Y, M.funWd f
 wd : ∀ f ∈ Y, M.fnWd 2000000 f
 no : ∀ f ∈ Y, M.fnWd 40 f ∨ M.kHas f.sg.name t = false
 ev : M.mIs Y = true → M.mEval Y t = M.mEval m t
theorem M.local_ok {nm : List UInt8} {m : List M.Fn} {x : M.Vl} {t : M.Tm} (hm : M.mIs m = true) (hl : m.length ≤ 12) (ho : ∀ f ∈ m, M.fnOk f) (hn : nm.length ≤ 20) (hx : x.2.2.length ≤ 2000000) (hh : M.kHas nm t = false) : ∃ Y, M.LocalOk nm m x t Y := by
 obtain ⟨T, D, P⟩ := M.parts_of nm hm
 have hc := P.count
 have hc2 : (m.filter fun f => decide (f.sg.name ≠ nm)).length ≤ m.length := List.length_filter_le _ _
 refine ⟨T ++ M.constF nm x :: D, ⟨?_, ?_, fun f hf => ?_, fun f hf => ?_, fun f hf => ?_, fun h => M.eval_put P hm rfl h hh⟩⟩
 ·unfold M.mRead
  rw [if_pos hm]
  exact P.put rfl
 ·rw [List.length_append] at hc
  rw [List.length_append, List.length_cons]
  omega
 ·rcases List.mem_append.1 hf with hf | hf
  ·exact (M.fnOk_wdL (ho f (P.mem (List.mem_append_left _ hf)).1)).1
  ·rcases List.mem_cons.1 hf with rfl | hf
   ·exact M.constF_wd (by omega) hx
   ·exact (M.fnOk_wdL (ho f (P.mem (List.mem_append_right _ hf)).1)).1
 ·rcases List.mem_append.1 hf with hf | hf
  ·exact M.fnWd_le (M.fnOk_wdL (ho f (P.mem (List.mem_append_left _ hf)).1)).2 (by decide)
  ·rcases List.mem_cons.1 hf with rfl | hf
   ·exact ⟨hx, fun r hr => by cases hr⟩
   ·exact M.fnWd_le (M.fnOk_wdL (ho f (P.mem (List.mem_append_right _ hf)).1)).2 (by decide)
 ·rcases List.mem_append.1 hf with hf | hf
  ·exact .inl (M.fnOk_wdL (ho f (P.mem (List.mem_append_left _ hf)).1)).2
  ·rcases List.mem_cons.1 hf with rfl | hf
   ·exact .inr hh
   ·exact .inl (M.fnOk_wdL (ho f (P.mem (List.mem_append_right _ hf)).1)).2
set_option maxHeartbeats 40000000 in
set_option maxRecDepth 100000 in
theorem local_v {t : M.Tm} {m : List M.Fn} {nm : List UInt8} {x : M.Vl} {tv mv v : Value} {w : World} (ht : IsTm w t tv) (hm : FnList w m mv) (hx : IsVl w x v) (hxw : x.2.2.length ≤ 2000000) (hT : Tab w) : Calls Tryz.prog 4 #[tv, mv, str nm, v] w (GivesB w true) := by
 obtain ⟨N, nn, nc, A, n, c, rfl, -, -, -, -, -, -⟩ := ht.shape
 obtain ⟨xs, xg, xl⟩ := x
 obtain ⟨VN, vn, vc, rfl, hvn⟩ := hx
 have hxv : IsVl w (xs, xg, xl) (vv xs xg VN vn vc) := ⟨VN, vn, vc, rfl, hvn⟩
 obtain ⟨MA, mc, rfl⟩ := hm.shape
 obtain ⟨q1, hq1⟩ : ∃ q, M.vfewT t = q := ⟨_, rfl⟩
 have HFT := hid (show ∀ w', Ext w w' → Calls Tryz.prog 8 #[kv t.op t.g N nn nc t.name t.sort A n c] w' (GivesB w' q1) from fun w' e => hq1 ▸ fewTermV_n t (ht.up e))
 have HQ1 := hid hq1
 have HRI := hid (show M.kfew t = true → ∀ w', Ext w w' → Calls Tryz.prog 10 #[kv t.op t.g N nn nc t.name t.sort A n c] w' (GivesB w' (M.kIs t)) from fun hf w' e => rkIs_n t (ht.up e) hf)
 have HSG := hid (show M.kcnt t ≤ 1000000 → ∀ w', Ext w w' → Calls Tryz.prog 24 #[kv t.op t.g N nn nc t.name t.sort A n c] w' (GivesSgs w' (M.kSigs t)) from fun hc w' e => rkSigs_n t (ht.up e) hc)
 have HTM := hid (show ∀ w', Ext w w' → IsTm w' t (kv t.op t.g N nn nc t.name t.sort A n c) from fun w' e => ht.up e)
 have HTB := hid (fun w' (e : Ext w w') => hT.up e)
 have HXV := hid (fun w' (e : Ext w w') => hxv.up e)
 have HFL := hid (fun w' (e : Ext w w') => hm.up e)
 have HXW := hid (show xl.length ≤ 2000000 from hxw)
 obtain ⟨mn, hmn⟩ : ∃ n, m.length = n := ⟨_, rfl⟩
 rw [hmn] at HFL ⊢
 have HMN := hid hmn
 obtain ⟨op, hop⟩ : ∃ x, t.op = x := ⟨_, rfl⟩
 obtain ⟨tg, hg⟩ : ∃ x, t.g = x := ⟨_, rfl⟩
 obtain ⟨tn, htn⟩ : ∃ x, t.name = x := ⟨_, rfl⟩
 obtain ⟨so, hso⟩ : ∃ x, t.sort = x := ⟨_, rfl⟩
 rw [hop, hg, htn, hso] at HFT HRI HSG HTM ⊢
 show Calls Tryz.prog 4 #[kv op tg N nn nc tn so A n c, .slice MA mn mc, str nm, vv xs xg VN vn vc] w (GivesB w true)
 obtain ⟨ln, hln⟩ : ∃ x, x = nm.length := ⟨_, rfl⟩
 have hsz : (⟨nm.toArray⟩ : ByteArray).size = ln := by rw [Lib.size_eq, hln]
 have hsz2 : (nm.length : Int) = (ln : Int) := by rw [hln]
 have HLN := hid hln
 clear hln hop hg htn hso hmn ht hm hT hxv hvn hxw hq1
 go_enter Tryz.func4, Tryz.ntmps4
 go_upto_region 1 with (fail)
 refine vwp_at (fun W => Box W w.heap.size #[.int .i64 op, .bool tg, .slice N nn nc, str tn, .int .i64 so, .slice A n c] 27 ∧ Box W (w.heap.size + 1) #[.int .i64 xs, .bool xg, .slice VN vn vc] 38 ∧ Ext w W) ⟨(Box.new w _ _).alloc _, Box.at_ (w := w.alloc (.cells #[.int .i64 op, .bool tg, .slice N nn nc, str tn, .int .i64 so, .slice A n c] 27)) (g := w.heap.size + 1) #[.int .i64 xs, .bool xg, .slice VN vn vc] 38 (by simp), alloc_two w _ _⟩ ?_
 intro W ⟨hb0, hb1, he⟩
 obtain ⟨g0, hg0⟩ : ∃ g, w.heap.size = g := ⟨_, rfl⟩
 rw [hg0] at hb0 hb1 ⊢
 have HB0 := hid hb0
 have HB1 := hid hb1
 have E := hid he
 clear hb0 hb1 he hg0
 go_wp2_with fail
 refine (vknown_n (HTB.out _ E.out)).mono ?_
 rintro e w1 ⟨rfl, hx⟩
 replace E := hid (E.out.trans hx)
 replace HB0 := hid (HB0.out.up hx)
 replace HB1 := hid (HB1.out.up hx)
 clear hx
 obtain ⟨⟨b0, b1, b2, b3, b4, b5⟩, -, -⟩ := boxF6 HB0.out
 go_wp2_with fail
 clear b0 b1 b2 b3 b4 b5
 refine (HFT.out _ E.out).mono ?_
 rintro e w2 ⟨rfl, hx⟩
 replace E := hid (E.out.trans hx)
 replace HB0 := hid (HB0.out.up hx)
 replace HB1 := hid (HB1.out.up hx)
 clear hx HFT
 cases q1
 case false =>
  go_wp2_with fail
  go_ret
  exact ⟨rfl, E.out⟩
 have hfw := HQ1.out
 unfold M.vfewT at hfw
 rw [Bool.and_eq_true] at hfw
 have HCN := hid (show M.kcnt t ≤ 120 from of_decide_eq_true hfw.1)
 have HKF := hid (M.vfew_kfew hfw.2)
 clear hfw HQ1
 go_wp2_with fail
 refine (fewFuns_v (HFL.out _ E.out)).mono ?_
 rintro e w3 ⟨q, rfl, hx, hq⟩
 replace E := hid (E.out.trans hx)
 replace HB0 := hid (HB0.out.up hx)
 replace HB1 := hid (HB1.out.up hx)
 have HQ := hid hq
 clear hx hq
 cases q
 case false =>
  go_wp2_with fail
  go_ret
  exact ⟨rfl, E.out⟩
 obtain ⟨hfl, hfo⟩ := HQ.out rfl
 obtain ⟨qi, hqi⟩ : ∃ q, M.mIs m = q := ⟨_, rfl⟩
 have HIS := hid (show ∀ w', Ext w w' → Calls Tryz.prog 23 #[.slice MA mn mc] w' (GivesB w' qi) from fun w' e => hqi ▸ is_v (HFL.out _ e) (fun f hf => (M.fnOk_wdL (hfo f hf)).1.2.1))
 have HM12 := hid hfl
 have HFO := hid hfo
 have HQI := hid hqi
 clear HQ hfl hfo hqi
 go_wp2_with fail
 refine (HIS.out _ E.out).mono ?_
 rintro e w4 ⟨rfl, hx⟩
 replace E := hid (E.out.trans hx)
 replace HB0 := hid (HB0.out.up hx)
 replace HB1 := hid (HB1.out.up hx)
 clear hx HIS
 cases qi
 case false =>
  go_wp2_with fail
  go_ret
  exact ⟨rfl, E.out⟩
 obtain ⟨q2, hq2⟩ : ∃ q, M.kIs t = q := ⟨_, rfl⟩
 have HRC := hid (HRI.out HKF.out)
 rw [hq2] at HRC
 clear hq2 HRI
 obtain ⟨⟨b0, b1, b2, b3, b4, b5⟩, -, -⟩ := boxF6 HB0.out
 go_wp2_with fail
 clear b0 b1 b2 b3 b4 b5
 refine (HRC.out _ E.out).mono ?_
 rintro e w5 ⟨rfl, hx⟩
 replace E := hid (E.out.trans hx)
 replace HB0 := hid (HB0.out.up hx)
 replace HB1 := hid (HB1.out.up hx)
 clear hx HRC
 cases q2
 case false =>
  go_wp2_with fail
  go_ret
  exact ⟨rfl, E.out⟩
 rcases Nat.lt_or_ge 20 ln with h20 | h20
 ·have h20' : 20 < (ln : Int) := by omega
  go_wp2_with fail
  go_ret
  exact ⟨rfl, E.out⟩
 have h20' : decide (20 < (ln : Int)) = false := by simp; omega
 have h20'' : ¬ 20 < (ln : Int) := by omega
 have H20 := hid (show nm.length ≤ 20 by rw [← HLN.out]; exact h20)
 obtain ⟨⟨b0, b1, b2, b3, b4, b5⟩, -, -⟩ := boxF6 HB0.out
 have HSGC := hid (HSG.out (by have := HCN.out; omega))
 clear HSG
 obtain ⟨⟨L, ok⟩, hL⟩ : ∃ p, M.kSigs t = p := ⟨_, rfl⟩
 have HKS := hid (show (M.kSigs t).1 = L by rw [hL])
 rw [hL] at HSGC
 clear hL
 go_wp2_with fail
 clear b0 b1 b2 b3 b4 b5 h20 h20' h20'' hsz hsz2
 refine (HSGC.out _ E.out).mono ?_
 rintro e w6 ⟨v9, rfl, hS, hx⟩
 replace hS : Sgs w6 L v9 := hS
 obtain ⟨SA, sc, rfl⟩ := hS.shape
 obtain ⟨sn, hsn⟩ : ∃ n, L.length = n := ⟨_, rfl⟩
 rw [hsn] at hS ⊢
 have HS := hid hS
 have hsle := hS.le.2
 have HSN := hid hsn
 replace E := hid (E.out.trans hx)
 replace HB0 := hid (HB0.out.up hx)
 replace HB1 := hid (HB1.out.up hx)
 clear hx HSGC hS hsn
 go_wp2_with fail
 go_loopw [11] (fun i wr => ∃ k : Nat, k ≤ sn ∧ i = .int .i64 (k : Int) ∧ Hid ((∀ s ∈ L.take k, s.name ≠ nm) ∧ Ext w6 wr)) (fun i _ => sn - (intOf i).toNat)
 case atStart => exact ⟨0, Nat.zero_le _, rfl, by simp, Ext.refl _⟩
 case round =>
  obtain ⟨k, hk, rfl, hR⟩ := hrel
  have ER := hid hR.out.2
  have HT := hid hR.out.1
  clear hR
  rcases Nat.lt_or_ge k sn with hlt | hge
  case inl =>
   have hlt' : (k : Int) < (sn : Int) := by omega
   obtain ⟨ad, s, B, d, rfl, hs, ⟨r0, -, -⟩, -⟩ := (HS.out.up ER.out).get hlt
   have HSX := hid hs
   clear hs
   by_cases hname : s.name = nm
   ·have hbq : (s.name == nm) = true := by rw [hname]; exact beq_self_eq_true nm
    clear hname
    go_wp2_with fail
    go_ret
    exact ⟨rfl, E.out.trans ER.out⟩
   ·have HNE := hid hname
    have hbq : (s.name == nm) = false := beq_eq_false_iff_ne.2 hname
    clear hname
    go_wp2_with fail
    clear r0 hbq
    go_roundw
    case rel => exact ⟨k + 1, by omega, by simp, M.all_next HT.out HSX.out HNE.out, ER.out⟩
    case measure => simp [intOf]; omega
  case inr =>
   obtain rfl : k = sn := by omega
   have HKH := hid (show M.kHas nm t = false from M.kHas_no fun s hs => by
    rw [HKS.out] at hs
    have h1 := HT.out
    rw [← HSN.out, List.take_length] at h1
    exact h1 s hs)
   obtain ⟨Y, hY⟩ := M.local_ok (x := (xs, xg, xl)) HQI.out HM12.out HFO.out H20.out HXW.out HKH.out
   have HY := hid hY
   replace E := hid (E.out.trans ER.out)
   replace HB0 := hid (HB0.out.up ER.out)
   replace HB1 := hid (HB1.out.up ER.out)
   obtain ⟨⟨b0, b1, b2⟩, -, -⟩ := box3v HB1.out
   clear hY ER HT HS HKS HSN
   go_wp2_with fail
   clear b0 b1 b2 hsle hge
   refine (put_v (HFL.out _ E.out) (HXV.out _ E.out) (by have := HM12.out; omega) (fun f hf => (M.fnOk_wdL (HFO.out f hf)).1) (by have := H20.out; omega) HXW.out).mono ?_
   rintro e w7 ⟨v7, rfl, hf7, hx⟩
   rw [HY.out.put] at hf7
   have hf7' := hf7.sub (gp_sub _ _)
   obtain ⟨YA, yc, rfl⟩ := hf7'.shape
   obtain ⟨yn, hyn⟩ : ∃ n, Y.length = n := ⟨_, rfl⟩
   rw [hyn] at hf7' ⊢
   have HX := hid (show StrInW w7 Y (.slice YA yn yc) from ⟨hf7', by have := HY.out.len; omega, HY.out.fw, HY.out.wd⟩)
   replace E := hid (E.out.trans hx)
   replace HB0 := hid (HB0.out.up hx)
   clear hx hf7 hf7' hyn HB1 HXV
   have HMS := hid (show StrIn w7 m (.slice MA mn mc) from ⟨HFL.out _ E.out, by have := HM12.out; omega, fun f hf => (M.fnOk_wdL (HFO.out f hf)).1, fun f hf => (M.fnOk_wdL (HFO.out f hf)).2⟩)
   obtain ⟨qy, hqy⟩ : ∃ q, M.mIs Y = q := ⟨_, rfl⟩
   have HIY := hid (show ∀ w', Ext w7 w' → Calls Tryz.prog 23 #[.slice YA yn yc] w' (GivesB w' qy) from fun w' e => hqy ▸ is_v (HX.out.list.up e) (fun f hf => (HX.out.fw f hf).2.1))
   have HQY := hid hqy
   clear hqy
   go_upto_region 12 with (fail)
   refine wp_region_D [(0, 0), (1, 1), (2, 0), (3, 0), (4, 0), (5, 0), (7, 0), (8, 0), (6, 1), (9, 1), (10, 1), (11, 0), (12, 0)] fun wd hb => ?_
   have E7 := hid hb
   clear hb
   refine WE.p 60 (.slice YA yn yc) ?_
   simp only [Act.put, pA, pB, pC]
   refine WE.c 61 ((HIY.out _ E7.out).mono ?_)
   rintro e w8 ⟨rfl, hb⟩
   refine ⟨_, rfl, hb, ?_⟩
   replace E7 := hid (E7.out.trans hb)
   clear hb HIY
   simp only [Act.put, pA, pB, pC]
   cases qy
   ·refine WE.p 62 (.bool true) ?_
    simp only [Act.put, pA, pB, pC]
    refine WE.p 63 (.bool true) ?_
    simp only [Act.put, pA, pB, pC]
    refine WE.s 64 ?_
    simp only [Act.put, pA, pB, pC]
    refine WE.s 65 ?_
    simp only [Act.put, pA, pB, pC]
    refine WE.s 67 ?_
    simp only [Act.put, pA, pB, pC]
    refine WE.s 68 ?_
    simp only [Act.put, pA, pB, pC]
    refine WE.t 66 ?_
    simp only [Act.put, pA, pB, pC]
    refine WE.t 69 ?_
    simp only [Act.put, pA, pB, pC]
    refine WE.t 70 ?_
    simp only [Act.put, pA, pB, pC]
    refine WE.p 71 (.bool true) ?_
    simp only [Act.put, pA, pB, pC]
    refine WE.p 8 (.bool true) ?_
    simp only [Act.put, pA, pB, pC]
    refine WE.done ?_
    go_wp2_with fail
    go_ret
    exact ⟨rfl, E.out.trans E7.out⟩
   ·refine WE.p 62 (.bool false) ?_
    simp only [Act.put, pA, pB, pC]
    refine WE.p 63 (.bool false) ?_
    simp only [Act.put, pA, pB, pC]
    refine WE.q 64 (kv op tg N nn nc tn so A n c) rfl (fun w' hk => by obtain ⟨⟨x0, x1, x2, x3, x4, x5⟩, -, -⟩ := boxF6 (HB0.out.up (E7.out.trans hk)); go_simp) ?_
    simp only [Act.put, pA, pB, pC]
    refine WE.p 65 (.slice YA yn yc) ?_
    simp only [Act.put, pA, pB, pC]
    refine WE.q 67 (kv op tg N nn nc tn so A n c) rfl (fun w' hk => by obtain ⟨⟨x0, x1, x2, x3, x4, x5⟩, -, -⟩ := boxF6 (HB0.out.up (E7.out.trans hk)); go_simp) ?_
    simp only [Act.put, pA, pB, pC]
    refine WE.p 68 (.slice MA mn mc) ?_
    simp only [Act.put, pA, pB, pC]
    refine WE.c 66 ((eval_vW (t := t) (HX.out.up E7.out) HY.out.no (HTM.out _ (E.out.trans E7.out)) HKF.out (HTB.out _ (E.out.trans E7.out))).mono ?_)
    rintro e w9 ⟨v9, rfl, hv9, hb, -⟩
    refine ⟨_, rfl, hb, ?_⟩
    rw [HY.out.ev HQY.out] at hv9
    replace E7 := hid (E7.out.trans hb)
    have HV9 := hid hv9
    clear hb hv9
    simp only [Act.put, pA, pB, pC]
    refine WE.c 69 ((eval_v (t := t) (HMS.out.up E7.out) (HTM.out _ (E.out.trans E7.out)) HKF.out (HTB.out _ (E.out.trans E7.out))).mono ?_)
    rintro e w10 ⟨v10, rfl, hv10, hb, -⟩
    refine ⟨_, rfl, hb, ?_⟩
    replace E7 := hid (E7.out.trans hb)
    replace HV9 := hid (HV9.out.up hb)
    have HV10 := hid hv10
    clear hb hv10
    simp only [Act.put, pA, pB, pC]
    refine WE.c 70 ((same_v HV9.out HV10.out).mono ?_)
    rintro e w11 ⟨rfl, hb⟩
    refine ⟨_, rfl, hb, ?_⟩
    replace E7 := hid (E7.out.trans hb)
    clear hb HV9 HV10
    rw [M.vSame_refl]
    simp only [Act.put, pA, pB, pC]
    refine WE.p 71 (.bool true) ?_
    simp only [Act.put, pA, pB, pC]
    refine WE.p 8 (.bool true) ?_
    simp only [Act.put, pA, pB, pC]
    refine WE.done ?_
    go_wp2_with fail
    go_ret
    exact ⟨rfl, E.out.trans E7.out⟩
end Go.Proofs.YtkhmgdfhggejaaaGreatDoor.Q

/-
  Layer 12's laws: a value as an argument, opened: it has no more limbs than its bulk.
-/
namespace Go.Proofs.YtkhmgdfhggejaaaGreatDoor.Q
set_option linter.unusedSimpArgs false
set_option linter.unusedVariables false
open Go.ChangeShapes Go.WideShapes Go.ChangeAt Go.RowKit

theorem bulk_one {H : Type} (d : DataW H) : 1 ≤ Rows.uptoBulk d := by
 cases d with
 | lit l => cases l <;> simp [Rows.uptoBulk]
 | nil => simp [Rows.uptoBulk]
 | ptr d => simp [Rows.uptoBulk]
 | slice elems spare => simp [Rows.uptoBulk]
 | agg parts => simp [Rows.uptoBulk]
 | iface t d => simp [Rows.uptoBulk]
 | map entries => simp [Rows.uptoBulk]
 | held h => simp [Rows.uptoBulk]
theorem bulk_len {H : Type} (l : List (DataW H)) : l.length ≤ Rows.uptoBulkAll l := by
 induction l with
 | nil => simp [Rows.uptoBulkAll]
 | cons x r ih => have := bulk_one x; simp only [Rows.uptoBulkAll, List.length_cons]; omega
section
variable {H : Type} {enc : TypeId × Value → H} {W : World}
theorem open_rowB {fuel : Nat} {v : Value} {y : DataW H × List MemPlace} (hf : DataW.trod enc Tryz.prog W 0 (fun _ => true) true fuel 22 [v] = some y) :
 ∃ A n c l, v = .slice A n c ∧ LNum W v l ∧ l.length ≤ Rows.uptoBulk y.1 := by
 obtain ⟨A, n, c, l, rfl, hn⟩ := open_row hf
 have hl : n = l.length := (LNum.len hn).1
 refine ⟨A, n, c, l, rfl, hn, ?_⟩
 rcases DataW.trod_slice Tryz.underlying22 hf with ⟨hc, _⟩ | ⟨a, len, cap, elems, rest, n', _, hc, hxe, _, _, _, hel, _, _⟩
 ·injection hc with hc
  injection hc with e1 e2 e3
  omega
 ·injection hc with hc
  injection hc with e1 e2 e3
  rw [hxe]
  simp only [Rows.uptoBulk]
  have := bulk_len (elems.map (·.1))
  rw [List.length_map] at this
  omega
set_option maxRecDepth 100000 in
theorem val_cellsB : ∀ (f : Nat) (cs : List Value) (x : DataW H × List MemPlace), DataW.trod enc Tryz.prog W 0 (fun _ => true) true f 38 cs = some x → ∃ (y : M.Vl) (N : Option Addr) (nn nc : Nat), cs = [.int .i64 y.1, .bool y.2.1, .slice N nn nc] ∧ LNum W (.slice N nn nc) y.2.2 ∧ y.2.2.length ≤ Rows.uptoBulk x.1 := by
 intro f cs x h
 obtain ⟨xs, n, rfl, hxe, hlen, hxl, hfx⟩ := DataW.trod_struct Tryz.underlying38 h
 rw [cells_Value3] at hlen
 match xs, hxl with
 | [y0, y1], _ =>
 match cs, hlen with
 | [v0, v1, v2], _ =>
  have h0 : DataW.trod enc Tryz.prog W 0 (fun _ => true) true n 3 (([v0, v1, v2].drop 0).take (Tryz.prog.cellsOf 3)) = some y0 := hfx 0 _ rfl
  have h1 : DataW.trod enc Tryz.prog W 0 (fun _ => true) true n 24 (([v0, v1, v2].drop 1).take (Tryz.prog.cellsOf 24)) = some y1 := hfx 1 _ rfl
  have d1 : Tryz.prog.cellsOf 24 = 2 := by kernel_rfl
  simp only [List.drop_zero, cells_intV, List.take_succ_cons, List.take_zero] at h0
  simp only [List.drop_succ_cons, List.drop_zero, d1, List.take_succ_cons, List.take_zero] at h1
  obtain ⟨so, hso, _⟩ := DataW.trod_int Tryz.underlying3 h0
  injection hso with hso
  subst hso
  obtain ⟨z0, z1, n', hz, _, h10, h11⟩ := trod_struct2 Tryz.underlying24 h1
  have d2 : Tryz.prog.cellsOf 4 = 1 := by kernel_rfl
  have d3 : Tryz.prog.cellsOf 22 = 1 := by kernel_rfl
  simp only [List.drop_zero, d2, List.take_succ_cons, List.take_zero] at h10
  simp only [List.drop_succ_cons, List.drop_zero, d3, List.take_succ_cons, List.take_zero] at h11
  obtain ⟨g, hg, _⟩ := DataW.trod_bool Tryz.underlying4 h10
  injection hg with hg
  subst hg
  obtain ⟨N, nn, nc, ls, rfl, hn, hb⟩ := open_rowB h11
  refine ⟨(so, g, ls), N, nn, nc, rfl, hn, ?_⟩
  rw [hxe]
  simp only [List.map_cons, List.map_nil, Rows.uptoBulk, Rows.uptoBulkAll, hz]
  show ls.length ≤ _
  omega
set_option maxRecDepth 100000 in
theorem open_ValueB {r : Reach} {b0 : Nat} {v : Value} {d : DataW H} {ps : List MemPlace} (hval : Value.okWide Tryz.prog W r b0 38 v) (h : DataW.Trod enc Tryz.prog W 0 (fun _ => true) true 38 v d ps) :
 ∃ x, IsVl W x v ∧ x.2.2.length ≤ Rows.uptoBulk d := by
 obtain ⟨cs, rfl, hsz⟩ := okWide_struct Tryz.underlying38 hval
 obtain ⟨fuel, hf⟩ := h
 have hf' : DataW.trod enc Tryz.prog W 0 (fun _ => true) true fuel 38 cs.toList = some (d, ps) := hf
 obtain ⟨y, N, nn, nc, hcs, hn, hb⟩ := val_cellsB _ _ _ hf'
 refine ⟨y, ⟨N, nn, nc, ?_, hn⟩, hb⟩
 rw [show cs = #[.int .i64 y.1, .bool y.2.1, .slice N nn nc] from Array.toList_inj.1 hcs]
end
end Go.Proofs.YtkhmgdfhggejaaaGreatDoor.Q

