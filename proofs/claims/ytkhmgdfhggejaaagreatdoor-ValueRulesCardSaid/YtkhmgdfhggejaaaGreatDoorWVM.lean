/-
  Layer 12's laws: fewFuns: what it lets pass.
-/
import Derived.Test.YtkhmgdfhggejaaaGreatDoorWVJ
namespace Go.Proofs.YtkhmgdfhggejaaaGreatDoor.Q
set_option linter.unusedSimpArgs false
set_option linter.unusedVariables false
open Go.RowKit
def M.rwOk (r : List M.Vl × M.Vl) : Prop := r.1.length ≤ 6 ∧ r.2.2.2.length ≤ 4 ∧ ∀ x ∈ r.1, x.2.2.length ≤ 4
def M.fnOk (f : M.Fn) : Prop := f.rows.length ≤ 10 ∧ f.sg.args.length ≤ 6 ∧ f.sg.name.length ≤ 30 ∧ f.els.2.2.length ≤ 4 ∧ ∀ r ∈ f.rows, M.rwOk r
theorem M.all_next {α : Type} {P : α → Prop} {l : List α} {k : Nat} {y : α} (h : ∀ x ∈ l.take k, P x) (hy : l[k]? = some y) (hp : P y) : ∀ x ∈ l.take (k + 1), P x := by
 intro x hx
 rw [List.take_add_one, hy, Option.toList_some, List.mem_append] at hx
 rcases hx with hx | hx
 ·exact h x hx
 ·obtain rfl : x = y := by simpa using hx
  exact hp
def GivesFew (w : World) (l : List M.Fn) (e : Ending) (w' : World) : Prop := ∃ b, e = .returned (.bool b) ∧ Ext w w' ∧ (b = true → l.length ≤ 12 ∧ ∀ f ∈ l, M.fnOk f)
set_option maxHeartbeats 40000000 in
set_option maxRecDepth 20000 in
theorem fewFuns_v {l : List M.Fn} {v : Value} {w : World} (h : FnList w l v) : Calls Tryz.prog 9 #[v] w (GivesFew w l) := by
 obtain ⟨A, c, rfl⟩ := h.shape
 obtain ⟨hn, hl2, hl3⟩ := h.le
 obtain ⟨n, hn'⟩ : ∃ n, l.length = n := ⟨_, rfl⟩
 rw [hn'] at h hl2 ⊢
 have HL := hid h
 have HN := hid hn'
 clear h hn hn'
 go_enter Tryz.func9, Tryz.ntmps9
 go_wp2_with fail
 go_loopw [3, 4, 5] (fun i _ _ wr => ∃ k : Nat, k ≤ n ∧ i = .int .i64 k ∧ Hid ((∀ f ∈ l.take k, M.fnOk f) ∧ Ext w wr)) (fun i _ _ _ => n - (intOf i).toNat)
 case atStart => exact ⟨0, Nat.zero_le _, rfl, by simp, Ext.refl _⟩
 case round =>
  obtain ⟨k, hk, rfl, hR⟩ := hrel
  have E := hid hR.out.2
  have HT := hid hR.out.1
  clear hR
  rcases Nat.lt_or_ge k n with hlt | hge
  case inr =>
   obtain rfl : k = n := by omega
   have HA := hid (show ∀ f ∈ l, M.fnOk f by have h1 := HT.out; rwa [← HN.out, List.take_length] at h1)
   go_wp2
   go_ret
   exact ⟨_, rfl, E.out, fun hb => ⟨by rw [HN.out]; have := of_decide_eq_true hb; omega, HA.out⟩⟩
  case inl =>
   have hlt' : (k : Int) < (n : Int) := by omega
   obtain ⟨f, hx⟩ : ∃ x, l[k]? = some x := ⟨_, List.getElem?_eq_getElem (by rw [HN.out]; exact hlt)⟩
   obtain ⟨ad, A1, n1, c1, D1, m1, d1, N, nn, nc, rfl, ⟨⟨r0, r1, r2⟩, r3, r4, r5, r6⟩, hi, hrw, hnum⟩ := (HL.out.up E.out).get hx
   have HX := hid hx
   have hm1 := hrw.le.1
   have hn1 := hi.le.1
   have hnn := (LNum.len hnum).1
   obtain ⟨ln, hln⟩ : ∃ q, f.sg.name.length = q := ⟨_, rfl⟩
   have HRW := hid hrw
   have HF := hid (And.intro hm1 (And.intro hn1 (And.intro hln hnn)))
   have HR3 := hid r3
   clear hx hi hrw hnum hm1 hn1 hnn r2 r4 r5
   rcases Nat.lt_or_ge 10 m1 with g1 | g1
   ·have g1' : (10 : Int) < (m1 : Int) := by omega
    go_wp2_with fail
    go_ret
    exact ⟨false, rfl, E.out, fun hb => Bool.noConfusion hb⟩
   have g1' : ¬ (10 : Int) < (m1 : Int) := by omega
   rcases Nat.lt_or_ge 6 n1 with g2 | g2
   ·have g2' : (6 : Int) < (n1 : Int) := by omega
    go_wp2_with fail
    go_ret
    exact ⟨false, rfl, E.out, fun hb => Bool.noConfusion hb⟩
   have g2' : ¬ (6 : Int) < (n1 : Int) := by omega
   rcases Nat.lt_or_ge 30 ln with g3 | g3
   ·have g3' : (30 : Int) < (ln : Int) := by omega
    go_wp2_with fail
    go_ret
    exact ⟨false, rfl, E.out, fun hb => Bool.noConfusion hb⟩
   have g3' : ¬ (30 : Int) < (ln : Int) := by omega
   rcases Nat.lt_or_ge 4 nn with g4 | g4
   ·have g4' : (4 : Int) < (nn : Int) := by omega
    go_wp2_with fail
    go_ret
    exact ⟨false, rfl, E.out, fun hb => Bool.noConfusion hb⟩
   have g4' : ¬ (4 : Int) < (nn : Int) := by omega
   have HG := hid (And.intro g1 (And.intro g2 (And.intro g3 g4)))
   go_wp2_with fail
   clear g1 g2 g3 g4 g1' g2' g3' g4' r0 r1 r3 r6 hln
   have hm10 := HG.out.1
   go_loopw [4, 5] (fun i _ wq => ∃ j : Nat, j ≤ m1 ∧ i = .int .i64 j ∧ Hid ((∀ r ∈ f.rows.take j, M.rwOk r) ∧ Ext wr wq)) (fun i _ _ => m1 - (intOf i).toNat)
   case atStart => exact ⟨0, Nat.zero_le _, rfl, by simp, Ext.refl _⟩
   case round =>
    obtain ⟨j, hj, rfl, hR⟩ := hrel
    have EJ := hid hR.out.2
    have HTJ := hid hR.out.1
    clear hR
    have r3 := EJ.out.cell HR3.out
    rcases Nat.lt_or_ge j m1 with jlt | jge
    case inr =>
     obtain rfl : j = m1 := by omega
     have HOK := hid (show M.fnOk f from ⟨by have := HF.out.1; have := HG.out.1; omega, by have := HF.out.2.1; have := HG.out.2.1; omega, by have := HF.out.2.2.1; have := HG.out.2.2.1; omega, by have := HF.out.2.2.2; have := HG.out.2.2.2; omega, by have h1 := HTJ.out; rw [HF.out.1, List.take_length] at h1; exact h1⟩)
     go_wp2_with fail
     clear r3
     go_roundw
     case rel => exact ⟨k + 1, by omega, by simp, M.all_next HT.out HX.out HOK.out, E.out.trans EJ.out⟩
     case measure => simp [intOf]; omega
    case inl =>
     have jlt' : (j : Int) < (m1 : Int) := by omega
     obtain ⟨r, hr⟩ : ∃ x, f.rows[j]? = some x := ⟨_, List.getElem?_eq_getElem (by have := HF.out.1; omega)⟩
     obtain ⟨rd, P, p1, pc, V, vn, vc, rfl, ⟨s0, s1, s2, s3⟩, hvl, hvn⟩ := (HRW.out.up EJ.out).get hr
     have hp1 := hvl.count.1
     have hvv := (LNum.len hvn).1
     have HRX := hid hr
     have HVL := hid hvl
     have HS0 := hid s0
     have HFR := hid (And.intro hp1 hvv)
     clear hr hvl hvn hp1 hvv s1 s2
     rcases Nat.lt_or_ge 6 p1 with g1 | g1
     ·have g1' : (6 : Int) < (p1 : Int) := by omega
      go_wp2_with fail
      go_ret
      exact ⟨false, rfl, E.out.trans EJ.out, fun hb => Bool.noConfusion hb⟩
     have g1' : ¬ (6 : Int) < (p1 : Int) := by omega
     rcases Nat.lt_or_ge 4 vn with g2 | g2
     ·have g2' : (4 : Int) < (vn : Int) := by omega
      go_wp2_with fail
      go_ret
      exact ⟨false, rfl, E.out.trans EJ.out, fun hb => Bool.noConfusion hb⟩
     have g2' : ¬ (4 : Int) < (vn : Int) := by omega
     have HGR := hid (And.intro g1 g2)
     go_wp2_with fail
     clear g1 g2 g1' g2' s0 s3 r3
     have hp6 := HGR.out.1
     go_loopw [5] (fun i wp => ∃ t : Nat, t ≤ p1 ∧ i = .int .i64 t ∧ Hid ((∀ x ∈ r.1.take t, x.2.2.length ≤ 4) ∧ Ext wr wp)) (fun i _ => p1 - (intOf i).toNat)
     case atStart => exact ⟨0, Nat.zero_le _, rfl, by simp, Ext.refl _⟩
     case round =>
      obtain ⟨t, ht, rfl, hR⟩ := hrel
      have ET := hid hR.out.2
      have HTT := hid hR.out.1
      clear hR
      have r3 := (EJ.out.trans ET.out).cell HR3.out
      have s0 := ET.out.cell HS0.out
      rcases Nat.lt_or_ge t p1 with tlt | tge
      case inr =>
       obtain rfl : t = p1 := by omega
       have HOK := hid (show M.rwOk r from ⟨by have := HFR.out.1; have := HGR.out.1; omega, by have := HFR.out.2; have := HGR.out.2; omega, by have h1 := HTT.out; rw [HFR.out.1, List.take_length] at h1; exact h1⟩)
       go_wp2_with fail
       clear r3 s0
       go_roundw
       case rel => exact ⟨j + 1, by omega, by simp, M.all_next HTJ.out HRX.out HOK.out, EJ.out.trans ET.out⟩
       case measure => simp [intOf]; omega
      case inl =>
       have tlt' : (t : Int) < (p1 : Int) := by omega
       obtain ⟨x, hx⟩ : ∃ x, r.1[t]? = some x := ⟨_, List.getElem?_eq_getElem (by have := HFR.out.1; omega)⟩
       obtain ⟨xd, Y, yn, yc, rfl, ⟨q0, q1, q2⟩, hxv⟩ := (HVL.out.up ET.out).at_ hx
       have hyn := (LNum.len hxv.num2).1
       have HXX := hid hx
       have HYN := hid hyn
       clear hx hxv hyn q0 q1
       rcases Nat.lt_or_ge 4 yn with g1 | g1
       ·have g1' : (4 : Int) < (yn : Int) := by omega
        go_wp2_with fail
        go_ret
        exact ⟨false, rfl, (E.out.trans EJ.out).trans ET.out, fun hb => Bool.noConfusion hb⟩
       have g1' : ¬ (4 : Int) < (yn : Int) := by omega
       have HG1 := hid g1
       go_wp2_with fail
       clear g1 g1' r3 s0 q2
       go_roundw
       case rel => exact ⟨t + 1, by omega, by simp, M.all_next HTT.out HXX.out (by have := HYN.out; have := HG1.out; omega), ET.out⟩
       case measure => simp [intOf]; omega
end Go.Proofs.YtkhmgdfhggejaaaGreatDoor.Q
