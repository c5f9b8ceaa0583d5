/-
  The reference's row of limbs of a numeral.
-/
import Derived.Test.YthlafkbldlmmaaaDoorTRNat
import Derived.Test.YthlafkbldlmmaaaDoorTRNum
namespace Go.Proofs.YthlafkbldlmmaaaDoor
open Go.RowKit
set_option linter.unusedSimpArgs false
set_option linter.unusedVariables false
namespace M
/-- What the loop over the chunks keeps, whatever digit stands first. -/
def Ch (l : List UInt8) (zs : List Nat) (z : Int) : Prop := z = (l.length : Int) - 9 * (zs.length : Int) ∧ small zs = true ∧ val zs + 1000000000 ^ zs.length * num (l.take z.toNat) = num l
theorem Ch.start (l : List UInt8) {z : Int} (hz : z = (l.length : Int)) : Ch l [] z := by
  subst hz
  exact ⟨by simp, rfl, by simp [val]⟩
theorem Ch.step {l : List UInt8} (hd : l.all digit = true) {zs : List Nat} {e : Nat} (h : Ch l zs (e : Int)) (he : 0 < e) {x : Nat} (hx : x = num ((l.drop (e - 9)).take (e - (e - 9)))) :
    x < 1000000000 ∧ Ch l (zs ++ [x]) ((e : Int) - 9) := by
  obtain ⟨h1, h2, h3⟩ := h
  have hel : e ≤ l.length := by omega
  have hx9 : x < 1000000000 := by
    have h5 := num_lt (all_part hd (e - 9) (e - (e - 9)))
    rw [← hx] at h5
    refine Nat.lt_of_lt_of_le h5 (show _ ≤ 10 ^ 9 from Nat.pow_le_pow_right (by decide) ?_)
    rw [List.length_take]; omega
  refine ⟨hx9, by rw [List.length_append, List.length_singleton, h1]; omega, by rw [small_append]; exact ⟨h2, by simp [small]; omega⟩, ?_⟩
  have h5 := chunk hel he (V := val zs) (t := zs.length) (by rw [← h3]; simp)
  rw [← hx] at h5
  rw [val_snoc, List.length_append, List.length_singleton, show ((e : Int) - 9).toNat = e - 9 by omega]
  exact h5
theorem Ch.done {l : List UInt8} {zs : List Nat} {z : Int} (h : Ch l zs z) (hz : z ≤ 0) : val zs = num l := by
  obtain ⟨h1, h2, h3⟩ := h
  rw [show z.toNat = 0 by omega] at h3
  rw [← h3]; simp [num]
end M
set_option maxHeartbeats 4000000 in
set_option maxRecDepth 100000 in
theorem rnatural_n (l : List UInt8) (hd : l.all M.digit = true) (hl : l.length ≤ 1000000) (w : World) : Calls Tryd.prog 28 #[str l] w fun e w' => ∃ v, e = .returned v ∧ Num w' w'.heap.size v (M.limbs (M.num l)) ∧ Ext w w' := by
  obtain ⟨L, hL⟩ : ∃ L, L = l.length := ⟨_, rfl⟩
  have hsz : (l.length : Int) = (L : Int) := by rw [hL]
  have hL6 : L ≤ 1000000 := by omega
  have HD := hid hd
  have HL := hid hL
  clear hd hL hl
  go_enter Tryd.func28, Tryd.ntmps28
  go_wp2
  go_loopw [3, 4] (fun o i wr => ∃ (zs : List Nat) (z : Int), i = .int .i64 z ∧ Hid (M.Ch l zs z) ∧ -9 < z ∧ z ≤ (L : Int) ∧ Own w.heap.size wr o zs ∧ Ext w wr) (fun _ i _ => (intOf i).toNat)
  case atStart => exact ⟨[], (L : Int), rfl, hid (M.Ch.start l (by rw [HL.out])), by omega, by omega, Own.nil _ _, Ext.refl _⟩
  case round =>
    obtain ⟨zs, z, rfl, hch, hz1, hz2, hown, hext⟩ := hrel
    have HO := hid hown
    have HX := hid hext
    clear hown hext
    rcases (by omega : z ≤ 0 ∨ 0 < z) with hz | hz
    · have hq : decide (0 < z) = false := by simp; omega
      have HZ := hid (hch.out.done hz)
      have HS := hid hch.out.2.1
      go_wp2_with (go_at_call 46; refine (rTrim_any _ _ zs HO.out.num HS).mono ?_; rintro e' w' ⟨⟨v', rfl, hv'⟩, rfl⟩)
      have HV := hid hv'
      clear hv'
      go_ret
      exact ⟨_, rfl, by rw [← HZ.out]; exact HV.out, HX.out⟩
    · obtain ⟨e, rfl⟩ : ∃ e : Nat, z = (e : Int) := ⟨z.toNat, by omega⟩
      obtain ⟨a, ha⟩ : ∃ a, a = e - 9 := ⟨_, rfl⟩
      obtain ⟨x, hx⟩ : ∃ x, x = M.num ((l.drop (e - 9)).take (e - (e - 9))) := ⟨_, rfl⟩
      obtain ⟨hx9, hch2⟩ := hch.out.step HD.out (by omega) hx
      have hmax : max 0 ((e : Int) - 9) = (a : Int) := by omega
      have hae : a ≤ e := by omega
      have hea : e - a ≤ 9 := by omega
      rw [← ha] at hx
      have HCH := hid hch2
      have HXX := hid hx
      have HXN := hid hx9
      have hq : (0 < (e : Int)) := hz
      clear hch hch2 hx ha hx9
      have hzl : zs.length ≤ 1000000 := by
        obtain ⟨h6, _⟩ := HCH.out
        simp at h6; omega
      go_wp2
      go_loopw [5, 6] (fun y i wi => ∃ (k c : Nat), i = .int .i64 (((a + k : Nat)) : Int) ∧ y = .int .u32 (c : Int) ∧ Hid (c = M.num ((l.drop a).take k)) ∧ a + k ≤ e ∧ wi = wr) (fun _ i _ => e - (intOf i).toNat)
      case atStart => exact ⟨0, 0, by simp, rfl, rfl, by omega, rfl⟩
      case round =>
        obtain ⟨k, c, rfl, rfl, hc0, hk, rfl⟩ := hrel
        obtain ⟨i, hi⟩ : ∃ i, i = a + k := ⟨_, rfl⟩
        rw [← hi] at hk
        rw [← hi]
        rcases Nat.lt_or_ge i e with hlt | hge
        · obtain ⟨ch, hc⟩ : ∃ ch, l[i]? = some ch := ⟨_, List.getElem?_eq_getElem (by rw [← HL.out]; omega)⟩
          have HC := hid hc
          have hidx := idx_str 9 Tryd.underlying9 l i ch rfl hc
          have hcd : 48 ≤ ch.toNat ∧ ch.toNat ≤ 57 := by
            have := List.all_eq_true.1 HD.out ch (List.mem_of_getElem? hc)
            simpa [M.digit] using this
          have hc9 : c < 100000000 := by
            have h1 := M.num_lt (l := (l.drop a).take k) (M.all_part HD.out a k)
            rw [← hc0.out, List.length_take] at h1
            exact Nat.lt_of_lt_of_le h1 (show 10 ^ min k (l.drop a).length ≤ 10 ^ 8 from Nat.pow_le_pow_right (by decide) (by omega))
          obtain ⟨d, hdd⟩ : ∃ d : Nat, d = ch.toNat - 48 := ⟨_, rfl⟩
          have q1 : IntKind.u8.wrap ((ch.toNat : Int) - 48) = (d : Int) := by rw [IntKind.wrap_u8]; omega
          have q2 : IntKind.u32.wrap (d : Int) = (d : Int) := by rw [IntKind.wrap_u32]; omega
          obtain ⟨f, hf⟩ : ∃ f : Nat, f = c * 10 := ⟨_, rfl⟩
          have q3 : IntKind.u32.wrap (10 * (c : Int)) = (f : Int) := by rw [IntKind.wrap_u32]; omega
          obtain ⟨s, hs⟩ : ∃ s : Nat, s = f + d := ⟨_, rfl⟩
          have q4 : IntKind.u32.wrap ((f : Int) + (d : Int)) = (s : Int) := by rw [IntKind.wrap_u32]; omega
          have HDD := hid hdd
          have HF := hid hf
          have HSS := hid hs
          have HI := hid hi
          have hlt' : (i : Int) < (e : Int) := by omega
          clear hc hcd hdd hc9 hf hs hi
          go_wp2
          go_roundw
          case rel =>
            refine ⟨k + 1, s, by rw [HI.out]; simp; omega, rfl, hid ?_, by have := HI.out; omega, by first | rfl | trivial⟩
            have hg : (l.drop a)[k]? = some ch := by rw [List.getElem?_drop, ← HI.out]; exact HC.out
            rw [M.num_take hg, ← hc0.out, ← HDD.out, ← HF.out]; exact HSS.out
          case measure => simp [intOf]; all_goals omega
        · have hie : i = e := by omega
          subst hie
          have hcx : c = x := by rw [HXX.out, hc0.out, show i - a = k by omega]
          subst hcx
          have HI := hid hi
          clear hge hi
          go_wp2_with (at_builtin; refine wpList_app1 rfl (.tmp 29) (.tmp 31) rfl w.heap.size _ zs rfl (HO.out.alloc _) _ c rfl ?c1 ?c3 ?c4 ?c5 ?_)
          case c1 => simp [go_sem]
          case c3 => have := HXN.out; omega
          case c4 => omega
          case c5 => have := HX.out.size; simp; omega
          intro v' w' hown' hgrow
          have HO' := hid hown'
          have HG := hid hgrow
          clear hown' hgrow
          go_wp2
          go_roundw
          case rel =>
            refine ⟨_, _, rfl, HCH.out, by omega, by omega, HO'.out, ?_⟩
            have hz := HX.out.size
            exact (HX.out.trans (Ext.alloc _ _)).below.trans ((HO.out.alloc _).below HG.out (Nat.le_refl _) (by simp; omega))
          case measure => simp [intOf]; all_goals omega
end Go.Proofs.YthlafkbldlmmaaaDoor
