/-
  Contract: a natural less another one.
-/
import Derived.Test.YtljjijcmoafndaaSum
namespace Go.Proofs.Ytljjijcmoafndaa
set_option linter.unusedSimpArgs false
set_option linter.unusedVariables false
open Go.RowKit

theorem difference_any (w : World) (u v : Value) (l m : List Nat) (hu : Num w w.heap.size u l) (hv : Num w w.heap.size v m) (hl : Hid (M.isNat l = true)) (hm : Hid (M.isNat m = true)) (hle : Hid (M.val m ≤ M.val l)) (hlen : Hid (l.length ≤ 100000000)) :
    Calls Try.prog 84 #[u, v] w (Gives w (M.limbs (M.val l - M.val m))) := by
  obtain ⟨A, n, c, rfl, hn, hc, hm0, hs, hr⟩ := hu
  obtain ⟨A', n', c', rfl, hn', hc', hm', hs', hr'⟩ := hv
  have hb : n ≤ 100000000 := by rw [hn]; exact hlen.out
  have HLE := M.length_le_of_val (M.isNat_iff.1 hl.out).1 (M.isNat_iff.1 hm.out).2 hle.out
  have hb' : n' ≤ n := by omega
  have HR := hid hr
  have HR' := hid hr'
  have HN := hid hn
  have HN' := hid hn'
  have HS := hid (M.small_iff.1 (M.isNat_iff.1 hl.out).1)
  have HS' := hid (M.small_iff.1 (M.isNat_iff.1 hm.out).1)
  clear hr hn hs hm0 hr' hn' hs' hm' hc hc' HLE
  have hmk : ∀ W : World, (Instr.makeSlice 22 (.int .i64 (n : Int)) (.int .i64 (n : Int))).run Try.prog W = .ok (.slice (some ⟨W.heap.size, 0, none⟩) n n) (W.alloc (.cells (zeros n) 56)) :=
    make_u32 _ _ _ _ n n rfl rfl (Nat.le_refl _) (by omega)
  go_enter Try.func84, Try.ntmps84
  go_wp2
  clear hmk
  go_loopw [6, 15] (fun sb i wr => ∃ (k bo : Nat) (o : List Nat), k ≤ n ∧ i = .int .i64 (k : Int) ∧ sb = .int .u32 (bo : Int) ∧ bo ≤ 1 ∧ o.length = n ∧ Blk wr w.heap.size o ∧ Below w.heap.size w wr ∧ M.small (o.take k) = true ∧
    M.val (l.take k) + 1000000000 ^ k * bo = M.val (m.take k) + M.val (o.take k)) (fun _ i _ => n - (intOf i).toNat)
  case atStart => exact ⟨0, 0, List.replicate n 0, Nat.zero_le _, rfl, rfl, by omega, by simp, Blk.made _ _, (Below.refl _ _).alloc (Nat.le_refl _) _, rfl, by simp [M.val]⟩
  case round =>
    obtain ⟨k, bo, o, hk, rfl, rfl, hbo, ho, hblk, hbel, hsm, hval⟩ := hrel
    have HO := hid ho
    have HBL := hid hblk
    have HB := hid hbel
    have HSM := hid hsm
    have HV := hid hval
    clear ho hblk hbel hsm hval
    by_cases hlt : k < n
    · obtain ⟨ad, x, rfl, had, HX, hcell⟩ := (HR.out.keep HB.out (Nat.le_refl _)).get (k := k) (by rw [← HN.out]; exact hlt)
      have hx9 := HS.out x (List.mem_of_getElem? HX.out)
      have hko : k < o.length := by rw [HO.out]; exact hlt
      obtain ⟨z, hz⟩ : ∃ z, o[k]? = some z := ⟨_, List.getElem?_eq_getElem hko⟩
      have HKO := hid hko
      have hoc := HBL.out.cell hz
      have hof := HBL.out.frozen k
      clear hz hko
      by_cases hkm : k < n'
      · obtain ⟨ad', y, rfl, had', HY, hcell'⟩ := (HR'.out.keep HB.out (Nat.le_refl _)).get (k := k) (by rw [← HN'.out]; exact hkm)
        have hy9 := HS'.out y (List.mem_of_getElem? HY.out)
        go_wp2
        · go_roundw
          case rel =>
            exact ⟨k + 1, 1, o.set k (x + 1000000000 - (bo + y)), by omega, by go_num, rfl, by omega, by rw [List.length_set]; exact HO.out, HBL.out.put _ (by omega), HB.out.setCell (Nat.le_refl _) _,
              M.small_set HSM.out (by omega) HKO.out, by rw [M.val_take HX.out, M.val_take HY.out, M.val_set HKO.out, Nat.pow_succ]; exact M.diff_step HV.out (by omega)⟩
          case measure => simp [intOf]; all_goals omega
        · go_roundw
          case rel =>
            exact ⟨k + 1, 0, o.set k (x - (bo + y)), by omega, by go_num, rfl, by omega, by rw [List.length_set]; exact HO.out, HBL.out.put _ (by omega), HB.out.setCell (Nat.le_refl _) _,
              M.small_set HSM.out (by omega) HKO.out, by rw [M.val_take HX.out, M.val_take HY.out, M.val_set HKO.out, Nat.pow_succ]; exact M.diff_step HV.out (by omega)⟩
          case measure => simp [intOf]; all_goals omega
      · have HY := hid (M.val_take_over (l := m) (k := k) (by rw [← HN'.out]; omega))
        go_wp2
        · go_roundw
          case rel =>
            exact ⟨k + 1, 1, o.set k (x + 1000000000 - bo), by omega, by go_num, rfl, by omega, by rw [List.length_set]; exact HO.out, HBL.out.put _ (by omega), HB.out.setCell (Nat.le_refl _) _,
              M.small_set HSM.out (by omega) HKO.out, by rw [M.val_take HX.out, HY.out, M.val_set HKO.out, Nat.pow_succ]; exact M.diff_step HV.out (by omega)⟩
          case measure => simp [intOf]; all_goals omega
        · go_roundw
          case rel =>
            exact ⟨k + 1, 0, o.set k (x - bo), by omega, by go_num, rfl, by omega, by rw [List.length_set]; exact HO.out, HBL.out.put _ (by omega), HB.out.setCell (Nat.le_refl _) _,
              M.small_set HSM.out (by omega) HKO.out, by rw [M.val_take HX.out, HY.out, M.val_set HKO.out, Nat.pow_succ]; exact M.diff_step HV.out (by omega)⟩
          case measure => simp [intOf]; all_goals omega
    · have hkn : k = n := by omega
      subst hkn
      have hos : M.small o = true := by have := HSM.out; rwa [List.take_of_length_le (by rw [HO.out]; exact Nat.le_refl _)] at this
      have hov : M.val o = M.val l - M.val m := by
        have h1 := HV.out
        rw [List.take_of_length_le (by rw [← HN.out]; exact Nat.le_refl _), List.take_of_length_le (by rw [← HN'.out]; exact hb'), List.take_of_length_le (by rw [HO.out]; exact Nat.le_refl _)] at h1
        exact M.diff_end h1 (by have := M.val_lt hos; rwa [HO.out] at this) hbo hle.out
      have HNUM := hid (HBL.out.num (fun x hx => by have := M.small_iff.1 hos x hx; omega) (by rw [HO.out]; unfold maxLen; omega) HO.out.symm)
      have HOS := hid hos
      have HOV := hid hov
      clear hos hov
      go_wp2_with fail
      refine (trimmed_any wr _ o HNUM.out HOS.out).mono ?_
      rintro e w' ⟨⟨v', rfl, hv'⟩, rfl⟩
      have HV' := hid hv'
      clear hv'
      go_wp2
      go_ret
      refine ⟨_, rfl, ?_, HB.out⟩
      rw [← HOV.out]
      exact HV'.out

theorem sub_any (w : World) (u v : Value) (l m : List Nat) (hu : Num w w.heap.size u l) (hv : Num w w.heap.size v m) (hl : Hid (l.length ≤ 100000000)) :
    Calls Try.prog 75 #[u, v] w (Gives w (M.limbs (M.nv l - M.nv m))) := by
  have HU := hid hu
  have HV := hid hv
  clear hu hv
  have hcr := M.cmp_range (M.val (M.nat l)) (M.val (M.nat m))
  by_cases hlt : M.nv m < M.nv l
  · have hc := M.cmp_gt hlt
    rw [← M.val_nat, ← M.val_nat] at hc
    have HC := hid hc
    have HLT := hid hlt
    clear hc hlt
    go_enter Try.func75, Try.ntmps75
    go_wp2_with fail
    refine (natural_any w u l HU.out).mono ?_
    rintro e w' ⟨⟨u', rfl, hu'⟩, rfl⟩
    have HU' := hid hu'
    clear hu'
    go_wp2_with fail
    refine (natural_any w v m HV.out).mono ?_
    rintro e w' ⟨⟨v', rfl, hv'⟩, rfl⟩
    have HV' := hid hv'
    clear hv'
    go_wp2_with fail
    refine (compare_any w u' v' _ _ HU'.out HV'.out (M.isNat_nat l) (M.isNat_nat m)).mono ?_
    rw [HC.out]
    rintro e w' ⟨rfl, k, rfl⟩
    go_wp2_with fail
    have hb := below_drewN (Below.refl w.heap.size w) k
    refine (difference_any (w.drewN k) u' v' _ _ (HU'.out.keep hb (Nat.le_refl _)) (HV'.out.keep hb (Nat.le_refl _)) (M.isNat_nat l) (M.isNat_nat m) (by unfold Hid; rw [M.val_nat, M.val_nat]; have := HLT.out; omega) (by unfold Hid; have := M.nat_length l; have := hl.out; omega)).mono ?_
    rw [M.val_nat, M.val_nat]
    rintro e w' ⟨v, rfl, hv, hb2⟩
    have HV2 := hid hv
    have HB := hid (hb.trans hb2)
    clear hv hb hb2
    go_wp2
    go_ret
    exact ⟨_, rfl, HV2.out, HB.out⟩
  · have hc : ¬ 0 < M.cmp (M.val (M.nat l)) (M.val (M.nat m)) := by
      rw [M.val_nat, M.val_nat, M.cmp_swap]; intro h; exact hlt (M.cmp_neg.1 (by omega))
    have HLT := hid hlt
    obtain ⟨z, hz⟩ : ∃ z : Int, z = M.cmp (M.val (M.nat l)) (M.val (M.nat m)) := ⟨_, rfl⟩
    rw [← hz] at hc hcr
    have HZ := hid hz
    have hz0 : z ≤ 0 := by omega
    clear hz hlt hc
    go_enter Try.func75, Try.ntmps75
    go_wp2_with fail
    refine (natural_any w u l HU.out).mono ?_
    rintro e w' ⟨⟨u', rfl, hu'⟩, rfl⟩
    have HU' := hid hu'
    clear hu'
    go_wp2_with fail
    refine (natural_any w v m HV.out).mono ?_
    rintro e w' ⟨⟨v', rfl, hv'⟩, rfl⟩
    have HV' := hid hv'
    clear hv'
    go_wp2_with fail
    refine (compare_any w u' v' _ _ HU'.out HV'.out (M.isNat_nat l) (M.isNat_nat m)).mono ?_
    rw [← HZ.out]
    rintro e w' ⟨rfl, k, rfl⟩
    go_wp2
    go_ret
    refine ⟨_, rfl, ?_, below_drewN (Below.refl _ _) _⟩
    rw [show M.nv l - M.nv m = 0 by have := HLT.out; omega, M.limbs_zero]
    exact Num.nil _ _
end Go.Proofs.Ytljjijcmoafndaa
