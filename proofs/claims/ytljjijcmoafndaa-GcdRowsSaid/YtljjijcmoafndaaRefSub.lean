/-
  Contract of the reference's difference.
-/
import Derived.Test.YtljjijcmoafndaaRefAdd
namespace Go.Proofs.Ytljjijcmoafndaa
set_option linter.unusedSimpArgs false
set_option linter.unusedVariables false
open Go.RowKit

theorem rSub_any (w : World) (u v : Value) (l m : List Nat) (hu : Num w w.heap.size u l) (hv : Num w w.heap.size v m) (hlen : Hid (l.length ≤ 100000000)) :
    Calls Try.prog 41 #[u, v] w (Gives w (M.limbs (M.nv l - M.nv m))) := by
  have HU := hid hu
  have HV := hid hv
  clear hu hv
  have hcr := M.cmp_range (M.nv l) (M.nv m)
  obtain ⟨z, hz⟩ : ∃ z : Int, z = M.cmp (M.nv l) (M.nv m) := ⟨_, rfl⟩
  rw [← hz] at hcr
  have HZ := hid hz
  clear hz
  go_enter Try.func41, Try.ntmps41
  go_wp2_with fail
  refine (rNat_any w u l HU.out).mono ?_
  rintro e w' ⟨⟨u', rfl, hu'⟩, rfl⟩
  have HU' := hid hu'
  clear hu'
  go_wp2_with fail
  refine (rNat_any w v m HV.out).mono ?_
  rintro e w' ⟨⟨v', rfl, hv'⟩, rfl⟩
  have HV' := hid hv'
  clear hv'
  go_wp2_with fail
  refine (rCmp_any w u' v' _ _ HU'.out HV'.out).mono ?_
  rw [M.nv_nat, M.nv_nat, ← HZ.out]
  rintro e w' ⟨rfl, kd, rfl⟩
  by_cases hz0 : z ≤ 0
  · have HLE := hid (show M.nv l ≤ M.nv m by
      rcases Nat.lt_or_ge (M.nv m) (M.nv l) with h | h
      · have := M.cmp_gt h; rw [← HZ.out] at this; omega
      · exact h)
    go_wp2
    go_ret
    refine ⟨_, rfl, ?_, below_drewN (Below.refl _ _) _⟩
    rw [show M.nv l - M.nv m = 0 by have := HLE.out; omega, M.limbs_zero]
    exact Num.nil _ _
  · have HLT := hid (show M.nv m < M.nv l by
      rcases Nat.lt_or_ge (M.nv m) (M.nv l) with h | h
      · exact h
      · have := M.cmp_nonpos h; rw [← HZ.out] at this; omega)
    have hbd := below_drewN (Below.refl w.heap.size w) kd
    have hu' := HU'.out.keep hbd (Nat.le_refl _)
    have hv' := HV'.out.keep hbd (Nat.le_refl _)
    have HBD := hid hbd
    obtain ⟨a, ha⟩ : ∃ a, a = M.nat l := ⟨_, rfl⟩
    obtain ⟨b, hb⟩ : ∃ b, b = M.nat m := ⟨_, rfl⟩
    have hia := M.isNat_nat l
    have hib := M.isNat_nat m
    have hva : M.nv l = M.val a := by rw [ha, M.val_nat]
    have hvb : M.nv m = M.val b := by rw [hb, M.val_nat]
    have hla := M.nat_length l
    rw [← ha] at hu' hia hla
    rw [← hb] at hv' hib
    have HVA := hid (And.intro hva hvb)
    have hlab := M.length_le_of_val (M.isNat_iff.1 hia).1 (M.isNat_iff.1 hib).2 (by rw [← hva, ← hvb]; exact Nat.le_of_lt HLT.out)
    obtain ⟨A, n, c, rfl, hn, hc, hm0, hs, hr⟩ := hu'
    obtain ⟨A', n', c', rfl, hn', hc', hm', hs', hr'⟩ := hv'
    have hn9 : n ≤ 100000000 := by have := hlen.out; omega
    have hn9' : n' ≤ n := by omega
    have HR := hid hr
    have HR' := hid hr'
    have HN := hid hn
    have HN' := hid hn'
    have HS := hid (M.small_iff.1 (M.isNat_iff.1 hia).1)
    have HS' := hid (M.small_iff.1 (M.isNat_iff.1 hib).1)
    clear hr hn hs hm0 hr' hn' hs' hm' hc hc' ha hb hva hvb hla hlab hia hib hbd HU HV HU' HV'
    go_wp2
    go_loopw [7, 8, 9] (fun v cr si wr => ∃ (i c : Nat) (xs : List Nat), si = .int .i64 (i : Int) ∧ cr = .int .i64 (c : Int) ∧ c ≤ 1 ∧ i ≤ n ∧ xs.length = i ∧ M.small xs = true ∧ Own w.heap.size wr v xs ∧ Below w.heap.size w wr ∧
      M.val (a.take i) + 1000000000 ^ i * c = M.val (b.take i) + M.val xs) (fun _ _ si _ => n - (intOf si).toNat)
    case atStart => exact ⟨0, 0, [], rfl, rfl, by omega, by omega, rfl, rfl, Own.nil _ _, HBD.out, by simp [M.val]⟩
    case round =>
      obtain ⟨i, c, xs, rfl, rfl, hc9, hi9, hxl, hxs, hown, hbel, hval⟩ := hrel
      have HXL := hid hxl
      have HXS := hid hxs
      have HO := hid hown
      have HB := hid hbel
      have HV := hid hval
      clear hxl hxs hown hbel hval
      by_cases hin : i < n
      · have hwb := HB.out
        obtain ⟨ad, x, rfl, had, HX, hcell⟩ := (HR.out.keep (w' := wr) ⟨hwb.os, hwb.tape, hwb.output, hwb.size, hwb.block⟩ (Nat.le_refl _)).get (k := i) (by rw [← HN.out]; exact hin)
        clear hwb
        have hx9 := HS.out x (List.mem_of_getElem? HX.out)
        by_cases hin' : i < n'
        · have hwb := HB.out
          obtain ⟨ad', y, rfl, had', HY, hcell'⟩ := (HR'.out.keep (w' := wr) ⟨hwb.os, hwb.tape, hwb.output, hwb.size, hwb.block⟩ (Nat.le_refl _)).get (k := i) (by rw [← HN'.out]; exact hin')
          clear hwb
          have hy9 := HS'.out y (List.mem_of_getElem? HY.out)
          obtain ⟨d, hd, hdI⟩ : ∃ d : Int, d = (x : Int) - c - y ∧ (x : Int) - (c : Int) - (y : Int) = d := ⟨_, rfl, rfl⟩
          rcases (by omega : d < 0 ∨ 0 ≤ d) with hneg | hneg
          · obtain ⟨k, hkI, hk9⟩ : ∃ k : Nat, d + 1000000000 = (k : Int) ∧ k < 1000000000 := ⟨(d + 1000000000).toNat, by omega, by omega⟩
            have HK := hid (show x + 1000000000 * 1 = y + c + k by omega)
            clear hd
            go_wp2_with (at_builtin; refine wpList_app1 rfl (.tmp 47) (.tmp 50) rfl w.heap.size _ xs rfl (HO.out.alloc _) wr.heap.size k rfl (by simp [go_sem]) (by omega) (by have := HXL.out; omega) (by have := HB.out.size; simp; omega) ?_)
            intro v' w' hown' hgrow
            have HO' := hid hown'
            have HG := hid hgrow
            clear hown' hgrow
            go_wp2
            go_roundw
            case rel =>
              refine ⟨i + 1, 1, xs ++ [k], by go_num, rfl, by omega, by omega, by rw [List.length_append, HXL.out]; rfl, by rw [M.small_append]; exact ⟨HXS.out, by simp [M.small]; omega⟩, HO'.out, ?_, ?_⟩
              · have hz := HB.out.size
                exact (HB.out.alloc (by omega) _).trans ((HO.out.alloc _).below HG.out (Nat.le_refl _) (by simp; omega))
              · rw [M.val_take HX.out, M.val_take HY.out, M.val_snoc, HXL.out, Nat.pow_succ]
                exact M.diff_step HV.out (by have := HK.out; omega)
            case measure => simp [intOf]; all_goals omega
          · obtain ⟨k, hkI, hk9⟩ : ∃ k : Nat, d = (k : Int) ∧ k < 1000000000 := ⟨d.toNat, by omega, by omega⟩
            have HK := hid (show x + 1000000000 * 0 = y + c + k by omega)
            have hkI2 := hid hkI
            clear hkI
            obtain rfl := hkI2.out
            clear hkI2 hd
            go_wp2_with (at_builtin; refine wpList_app1 rfl (.tmp 47) (.tmp 50) rfl w.heap.size _ xs rfl (HO.out.alloc _) wr.heap.size k rfl (by simp [go_sem]) (by omega) (by have := HXL.out; omega) (by have := HB.out.size; simp; omega) ?_)
            intro v' w' hown' hgrow
            have HO' := hid hown'
            have HG := hid hgrow
            clear hown' hgrow
            go_wp2
            go_roundw
            case rel =>
              refine ⟨i + 1, 0, xs ++ [k], by go_num, rfl, by omega, by omega, by rw [List.length_append, HXL.out]; rfl, by rw [M.small_append]; exact ⟨HXS.out, by simp [M.small]; omega⟩, HO'.out, ?_, ?_⟩
              · have hz := HB.out.size
                exact (HB.out.alloc (by omega) _).trans ((HO.out.alloc _).below HG.out (Nat.le_refl _) (by simp; omega))
              · rw [M.val_take HX.out, M.val_take HY.out, M.val_snoc, HXL.out, Nat.pow_succ]
                exact M.diff_step HV.out (by have := HK.out; omega)
            case measure => simp [intOf]; all_goals omega
        · skip
          have HY := hid (M.val_take_over (l := b) (k := i) (by rw [← HN'.out]; omega))
          obtain ⟨d, hd, hdI⟩ : ∃ d : Int, d = (x : Int) - c ∧ (x : Int) - (c : Int) = d := ⟨_, rfl, rfl⟩
          rcases (by omega : d < 0 ∨ 0 ≤ d) with hneg | hneg
          · obtain ⟨k, hkI, hk9⟩ : ∃ k : Nat, d + 1000000000 = (k : Int) ∧ k < 1000000000 := ⟨(d + 1000000000).toNat, by omega, by omega⟩
            have HK := hid (show x + 1000000000 * 1 = 0 + c + k by omega)
            clear hd
            go_wp2_with (at_builtin; refine wpList_app1 rfl (.tmp 47) (.tmp 50) rfl w.heap.size _ xs rfl (HO.out.alloc _) wr.heap.size k rfl (by simp [go_sem]) (by omega) (by have := HXL.out; omega) (by have := HB.out.size; simp; omega) ?_)
            intro v' w' hown' hgrow
            have HO' := hid hown'
            have HG := hid hgrow
            clear hown' hgrow
            go_wp2
            go_roundw
            case rel =>
              refine ⟨i + 1, 1, xs ++ [k], by go_num, rfl, by omega, by omega, by rw [List.length_append, HXL.out]; rfl, by rw [M.small_append]; exact ⟨HXS.out, by simp [M.small]; omega⟩, HO'.out, ?_, ?_⟩
              · have hz := HB.out.size
                exact (HB.out.alloc (by omega) _).trans ((HO.out.alloc _).below HG.out (Nat.le_refl _) (by simp; omega))
              · rw [M.val_take HX.out, HY.out, M.val_snoc, HXL.out, Nat.pow_succ]
                exact M.diff_step HV.out (by have := HK.out; omega)
            case measure => simp [intOf]; all_goals omega
          · obtain ⟨k, hkI, hk9⟩ : ∃ k : Nat, d = (k : Int) ∧ k < 1000000000 := ⟨d.toNat, by omega, by omega⟩
            have HK := hid (show x + 1000000000 * 0 = 0 + c + k by omega)
            have hkI2 := hid hkI
            clear hkI
            obtain rfl := hkI2.out
            clear hkI2 hd
            go_wp2_with (at_builtin; refine wpList_app1 rfl (.tmp 47) (.tmp 50) rfl w.heap.size _ xs rfl (HO.out.alloc _) wr.heap.size k rfl (by simp [go_sem]) (by omega) (by have := HXL.out; omega) (by have := HB.out.size; simp; omega) ?_)
            intro v' w' hown' hgrow
            have HO' := hid hown'
            have HG := hid hgrow
            clear hown' hgrow
            go_wp2
            go_roundw
            case rel =>
              refine ⟨i + 1, 0, xs ++ [k], by go_num, rfl, by omega, by omega, by rw [List.length_append, HXL.out]; rfl, by rw [M.small_append]; exact ⟨HXS.out, by simp [M.small]; omega⟩, HO'.out, ?_, ?_⟩
              · have hz := HB.out.size
                exact (HB.out.alloc (by omega) _).trans ((HO.out.alloc _).below HG.out (Nat.le_refl _) (by simp; omega))
              · rw [M.val_take HX.out, HY.out, M.val_snoc, HXL.out, Nat.pow_succ]
                exact M.diff_step HV.out (by have := HK.out; omega)
            case measure => simp [intOf]; all_goals omega
      · have hkn : i = n := by omega
        subst hkn
        have hov : M.val xs = M.val a - M.val b := by
          have h1 := HV.out
          rw [List.take_of_length_le (by rw [← HN.out]; exact Nat.le_refl _), List.take_of_length_le (by rw [← HN'.out]; exact hn9')] at h1
          exact M.diff_end h1 (by have := M.val_lt HXS.out; rwa [HXL.out] at this) hc9 (by rw [← HVA.out.1, ← HVA.out.2]; exact Nat.le_of_lt HLT.out)
        have HOV := hid hov
        clear hov
        go_wp2_with fail
        refine (rTrim_any wr _ xs HO.out.num HXS.out).mono ?_
        rintro e w' ⟨⟨v', rfl, hv'⟩, rfl⟩
        have HV' := hid hv'
        clear hv'
        go_wp2
        go_ret
        refine ⟨_, rfl, ?_, HB.out⟩
        rw [HVA.out.1, HVA.out.2, ← HOV.out]
        exact HV'.out
end Go.Proofs.Ytljjijcmoafndaa
