/-
  The reference's text of a row of limbs.
-/
import Derived.Test.YthlafkbldlmmaaaDoorTRNatM
import Derived.Test.YthlafkbldlmmaaaDoorRef
import Derived.Test.YthlafkbldlmmaaaDoorTKnown
namespace Go.Proofs.YthlafkbldlmmaaaDoor
open Go.RowKit
set_option linter.unusedSimpArgs false
set_option linter.unusedVariables false
set_option maxRecDepth 100000 in
set_option maxHeartbeats 4000000 in
theorem rText_m {w : World} {v : Value} {l m : List Nat} (hv : Num w w.heap.size v l) (hm : m = M.nat l) (hsm : M.small m = true) (hlast : m.getLast? ≠ some 0) (hle : m.length ≤ 1000000) :
    Calls Tryd.prog 14 #[v] w (GivesT w (Lib.decDigits (M.val m))) := by
  have hcall : Calls Tryd.prog 37 #[v] w fun e w' => (∃ A n c, e = .returned (.slice A n c) ∧ Hid (n = m.length) ∧ Hid (Num w w.heap.size (.slice A n c) m)) ∧ w = w' := by
    refine (rNat_any w v l hv).mono ?_
    rintro e w' ⟨⟨v', rfl, h⟩, rfl⟩
    rw [← hm] at h
    have h0 := h
    obtain ⟨A, n, c, rfl, h1, -⟩ := h
    exact ⟨⟨A, n, c, rfl, h1, h0⟩, rfl⟩
  clear hv hm
  have HSM := hid hsm
  have HLA := hid hlast
  have HLE := hid hle
  clear hsm hlast hle
  go_enter Tryd.func14, Tryd.ntmps14
  go_upto_region 2 with (go_at_call 37; refine hcall.mono ?_; rintro e' w' ⟨⟨A, n, c, rfl, HN, HR⟩, rfl⟩)
  have hb : n ≤ 1000000 := by rw [HN.out]; exact HLE.out
  clear hcall
  by_cases h0 : n = 0
  · have hm0 : m = [] := List.eq_nil_of_length_eq_zero (by rw [← HN.out]; exact h0)
    subst h0
    go_wp2
    go_ret
    exact ⟨by subst hm0; rw [show M.val [] = 0 from rfl, M.dec_small (by decide)]; rfl, Ext.refl _⟩
  · have hmne : m ≠ [] := fun e => h0 (by rw [HN.out, e]; rfl)
    have HMNE := hid hmne
    clear hmne
    have h1 : 1 ≤ n := by omega
    have hz : ((n : Int) == 0) = false := by simp; omega
    go_wp2
    go_loopw [4, 5] (fun sv i wr => ∃ (j : Nat) (t : List UInt8), i = .int .i64 (j : Int) ∧ sv = str t ∧ Hid (M.Out m j t) ∧ j ≤ n ∧ t.length ≤ 9 * j ∧ Ext w wr) (fun _ i _ => n - (intOf i).toNat)
    case atStart => exact ⟨0, [], rfl, rfl, hid (M.Out.start HMNE.out), Nat.zero_le _, by simp, Ext.refl _⟩
    case round =>
      obtain ⟨j, t, rfl, rfl, HO, hj, htl, hx⟩ := hrel
      have E := hid hx
      have HTL := hid htl
      clear hx htl
      rcases Nat.lt_or_ge j n with hlt | hge
      · have hrow : Row wr wr.heap.size A m := by
          obtain ⟨_, _, _, e, _, _, _, _, hr⟩ := HR.out.up E.out
          injection e with e1 _ _
          rw [e1]; exact hr
        obtain ⟨ad, x, rfl, hadb, HX, hcell⟩ := hrow.get (k := j) (by rw [← HN.out]; exact hlt)
        clear hrow
        have hx9 : x < 1000000000 := by have := List.all_eq_true.1 HSM.out x (List.mem_of_getElem? HX.out); simpa using this
        have hxp : j + 1 = n → 0 < x := fun h => by
          rcases Nat.eq_zero_or_pos x with h0 | h0
          · exfalso; apply HLA.out
            rw [List.getLast?_eq_getElem?, ← HN.out, show n - 1 = j by omega, HX.out, h0]
          · exact h0
        have HX9 := hid hx9
        have HXP := hid hxp
        clear hx9 hxp
        have hjj : ((n : Int) - 1) = ((n - 1 : Nat) : Int) := by omega
        obtain ⟨b, hb2⟩ : ∃ b : Bool, b = decide (j + 1 = n) := ⟨_, rfl⟩
        have HB := hid hb2
        clear hb2
        go_wp2
        go_loopw [4, 6, 7] (fun sv nv kv wr => ∃ (k y : Nat) (p : List UInt8), sv = str (p ++ t) ∧ nv = .int .u32 (y : Int) ∧ kv = .int .i64 (k : Int) ∧ Hid (M.Inn x b k y p) ∧ k ≤ 9 ∧ p.length ≤ k ∧ Ext w wr) (fun _ _ kv _ => 9 - (intOf kv).toNat)
        case atStart => exact ⟨0, x, [], rfl, rfl, rfl, hid (M.Inn.start (fun h => HXP.out (by have := HB.out; rw [h] at this; simpa using this.symm))), by omega, by simp, E.out⟩
        case round =>
          obtain ⟨k, y, p, rfl, rfl, rfl, HI, hk, hpl, hx2⟩ := hrel
          have E2 := hid hx2
          have HPL := hid hpl
          clear hx2 hpl
          have hy : y < 1000000000 := by rw [HI.out.1]; exact Nat.lt_of_le_of_lt (Nat.div_le_self _ _) HX9.out
          rcases (by omega : k = 9 ∨ k < 9) with hk9 | hk9
          · have HP := hid (show (j + 1 = n → p = Lib.decDigits x) ∧ (j + 1 < n → p = M.pad 9 x) from ⟨fun h => by
                have hbt : b = true := by rw [HB.out]; simpa using h
                have h2 := HI.out
                rw [hbt] at h2; exact h2.last (.inl hk9) HX9.out, fun h => by
                have hbf : b = false := by rw [HB.out]; simp; omega
                have h2 := HI.out
                rw [hbf] at h2; exact h2.mid hk9 HX9.out⟩)
            have q0 : decide ((k : Int) < 9) = false := by simp; omega
            go_wp2
            go_roundw
            case rel => exact ⟨j + 1, p ++ t, by simp, rfl, hid (HO.out.step HSM.out HLA.out HX.out ⟨fun h => HP.out.1 (by rw [HN.out]; exact h), fun h => HP.out.2 (by rw [HN.out]; exact h)⟩), by omega, by have := HTL.out; have := HPL.out; simp; omega, E2.out⟩
            case measure => simp [intOf]; all_goals omega
          · have HK9 := hid hk9
            have q0 : ((k : Int) < 9) := by omega
            clear hk9
            rcases (by omega : j + 1 < n ∨ (j + 1 = n ∧ 0 < y) ∨ (j + 1 = n ∧ y = 0)) with h | h | h
            · have HC := hid (show b = false ∨ 0 < y from .inl (by rw [HB.out]; simp; omega))
              have c1 : decide (j < n - 1) = true := by simp; omega
              have c3 : j + 1 < n := by omega
              clear h
              obtain ⟨d, hd⟩ : ∃ d : Nat, d = 48 + y % 10 := ⟨_, rfl⟩
              have hd9 : d < 58 := by omega
              have q1 : (y : Int).tmod 10 = ((y % 10 : Nat) : Int) := by rw [Int.tmod_eq_emod_of_nonneg (by omega)]; rfl
              obtain ⟨f, hf⟩ : ∃ f : Nat, f = y % 10 := ⟨_, rfl⟩
              rw [← hf] at q1 hd
              have q2 : IntKind.u32.wrap (48 + (f : Int)) = (d : Int) := by rw [IntKind.wrap_u32]; omega
              have q3 : IntKind.u8.wrap (d : Int) = (d : Int) := by rw [IntKind.wrap_u8]; omega
              obtain ⟨z, hz2⟩ : ∃ z : Nat, z = y / 10 := ⟨_, rfl⟩
              have q4 : (y : Int).tdiv 10 = (z : Int) := by rw [Int.tdiv_eq_ediv_of_nonneg (by omega)]; omega
              have q5 : IntKind.u32.wrap (z : Int) = (z : Int) := by rw [IntKind.wrap_u32]; omega
              have hcv : ∀ w0 : World, (convert 37 9 (.slice (some ⟨w0.heap.size, 0, none⟩) 1 1)).run Tryd.prog (w0.alloc (.cells #[.int .u8 (d : Int)] 5)) = .ok (str [UInt8.ofNat d]) (w0.alloc (.cells #[.int .u8 (d : Int)] 5)) := fun w0 => byte_text d (by omega) _ _ _ (Box.new w0 _ _)
              have hle2 : ¬ 9223372036854775807 < 1 + (p.length + t.length) := by have := HPL.out; have := HTL.out; omega
              have hcat := str_cat [UInt8.ofNat d] (p ++ t)
              have HD := hid (show d = 48 + y % 10 by omega)
              have HZ := hid hz2
              have HY := hid hy
              clear hd hd9 hf hz2 hy
              go_wp2
              go_roundw
              case rel => exact ⟨k + 1, z, UInt8.ofNat d :: p, rfl, rfl, by simp, hid (by rw [HD.out, HZ.out]; exact HI.out.step HK9.out HC.out), by have := HK9.out; omega, by have := HPL.out; simp; omega, E2.out.alloc' _⟩
              case measure => simp [intOf]; have := HK9.out; all_goals omega
            · have HC := hid (show b = false ∨ 0 < y from .inr h.2)
              have c1 : decide (j < n - 1) = false := by simp; omega
              have c3 : n ≤ j + 1 := by omega
              have c2 : 0 < y := h.2
              clear h
              obtain ⟨d, hd⟩ : ∃ d : Nat, d = 48 + y % 10 := ⟨_, rfl⟩
              have hd9 : d < 58 := by omega
              have q1 : (y : Int).tmod 10 = ((y % 10 : Nat) : Int) := by rw [Int.tmod_eq_emod_of_nonneg (by omega)]; rfl
              obtain ⟨f, hf⟩ : ∃ f : Nat, f = y % 10 := ⟨_, rfl⟩
              rw [← hf] at q1 hd
              have q2 : IntKind.u32.wrap (48 + (f : Int)) = (d : Int) := by rw [IntKind.wrap_u32]; omega
              have q3 : IntKind.u8.wrap (d : Int) = (d : Int) := by rw [IntKind.wrap_u8]; omega
              obtain ⟨z, hz2⟩ : ∃ z : Nat, z = y / 10 := ⟨_, rfl⟩
              have q4 : (y : Int).tdiv 10 = (z : Int) := by rw [Int.tdiv_eq_ediv_of_nonneg (by omega)]; omega
              have q5 : IntKind.u32.wrap (z : Int) = (z : Int) := by rw [IntKind.wrap_u32]; omega
              have hcv : ∀ w0 : World, (convert 37 9 (.slice (some ⟨w0.heap.size, 0, none⟩) 1 1)).run Tryd.prog (w0.alloc (.cells #[.int .u8 (d : Int)] 5)) = .ok (str [UInt8.ofNat d]) (w0.alloc (.cells #[.int .u8 (d : Int)] 5)) := fun w0 => byte_text d (by omega) _ _ _ (Box.new w0 _ _)
              have hle2 : ¬ 9223372036854775807 < 1 + (p.length + t.length) := by have := HPL.out; have := HTL.out; omega
              have hcat := str_cat [UInt8.ofNat d] (p ++ t)
              have HD := hid (show d = 48 + y % 10 by omega)
              have HZ := hid hz2
              have HY := hid hy
              clear hd hd9 hf hz2 hy
              go_wp2
              go_roundw
              case rel => exact ⟨k + 1, z, UInt8.ofNat d :: p, rfl, rfl, by simp, hid (by rw [HD.out, HZ.out]; exact HI.out.step HK9.out HC.out), by have := HK9.out; omega, by have := HPL.out; simp; omega, E2.out.alloc' _⟩
              case measure => simp [intOf]; have := HK9.out; all_goals omega
            · have HP := hid (show (j + 1 = n → p = Lib.decDigits x) ∧ (j + 1 < n → p = M.pad 9 x) from ⟨fun _ => by
                  have hbt : b = true := by rw [HB.out]; simpa using h.1
                  have h2 := HI.out
                  rw [hbt] at h2; exact h2.last (.inr h.2) HX9.out, fun h2 => by omega⟩)
              have c1 : decide (j < n - 1) = false := by simp; omega
              have c3 : n ≤ j + 1 := by omega
              have c2 : y = 0 := h.2
              clear h
              go_wp2
              go_roundw
              case rel => exact ⟨j + 1, p ++ t, by simp, rfl, hid (HO.out.step HSM.out HLA.out HX.out ⟨fun h => HP.out.1 (by rw [HN.out]; exact h), fun h => HP.out.2 (by rw [HN.out]; exact h)⟩), by omega, by have := HTL.out; have := HPL.out; simp; omega, E2.out⟩
              case measure => simp [intOf]; all_goals omega
      · obtain rfl : j = n := by omega
        go_wp2
        go_ret
        exact ⟨by rw [HO.out.2 HN.out]; rfl, E.out⟩
end Go.Proofs.YthlafkbldlmmaaaDoor
