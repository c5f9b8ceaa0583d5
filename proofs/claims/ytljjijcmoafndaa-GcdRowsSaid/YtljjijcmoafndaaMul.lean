/-
  Contract: the product of two naturals, limb by limb.
-/
import Derived.Test.YtljjijcmoafndaaDiff
namespace Go.Proofs.Ytljjijcmoafndaa
set_option linter.unusedSimpArgs false
set_option linter.unusedVariables false
open Go.RowKit

theorem getD_some {l : List Nat} {k : Nat} (hk : k < l.length) : l[k]? = some (l.getD k 0) := by
  rw [List.getD_eq_getElem?_getD, List.getElem?_eq_getElem hk]; rfl

theorem limbByLimb_any (w : World) (u v : Value) (l m : List Nat) (hu : Num w w.heap.size u l) (hv : Num w w.heap.size v m) (hl : Hid (M.small l = true)) (hm : Hid (M.small m = true)) (hlen : Hid (l.length ≤ 100000000)) (hlen' : Hid (m.length ≤ 100000000)) :
    Calls Try.prog 81 #[u, v] w (Gives w (M.limbs (M.val l * M.val m))) := by
  obtain ⟨A, n, c, rfl, hn, hc, hm0, hs, hr⟩ := hu
  obtain ⟨A', n', c', rfl, hn', hc', hm', hs', hr'⟩ := hv
  have hb : n ≤ 100000000 := by rw [hn]; exact hlen.out
  have hb' : n' ≤ 100000000 := by rw [hn']; exact hlen'.out
  have HR := hid hr
  have HR' := hid hr'
  have HN := hid hn
  have HN' := hid hn'
  have HS := hid (M.small_iff.1 hl.out)
  have HS' := hid (M.small_iff.1 hm.out)
  clear hr hn hs hm0 hr' hn' hs' hm' hc hc'
  by_cases h0 : n = 0
  · subst h0
    go_enter Try.func81, Try.ntmps81
    go_wp2
    go_ret
    refine ⟨_, rfl, ?_, Below.refl _ _⟩
    rw [List.eq_nil_of_length_eq_zero HN.out.symm]
    simp only [M.val, Nat.zero_mul, M.limbs_zero]
    exact Num.nil _ _
  by_cases h0' : n' = 0
  · subst h0'
    have hz : ((n : Int) == 0) = false := by simpa using h0
    go_enter Try.func81, Try.ntmps81
    go_wp2
    go_ret
    refine ⟨_, rfl, ?_, Below.refl _ _⟩
    rw [List.eq_nil_of_length_eq_zero HN'.out.symm]
    simp only [M.val, Nat.mul_zero, M.limbs_zero]
    exact Num.nil _ _
  have hz : ((n : Int) == 0) = false := by simpa using h0
  have hz' : ((n' : Int) == 0) = false := by simpa using h0'
  have hmk : ∀ W : World, (Instr.makeSlice 22 (.int .i64 ((n : Int) + (n' : Int))) (.int .i64 ((n : Int) + (n' : Int)))).run Try.prog W = .ok (.slice (some ⟨W.heap.size, 0, none⟩) (n + n') (n + n')) (W.alloc (.cells (zeros (n + n')) 56)) :=
    make_u32 _ _ _ _ (n + n') (n + n') (by omega) (by omega) (Nat.le_refl _) (by omega)
  go_enter Try.func81, Try.ntmps81
  go_wp2
  clear hmk hz hz' h0 h0'
  go_loopw [28] (fun si wr => ∃ (i : Nat) (o : List Nat), i ≤ n' ∧ si = .int .i64 (i : Int) ∧ o.length = n + n' ∧ Blk wr w.heap.size o ∧ Below w.heap.size w wr ∧ M.small o = true ∧
    M.val o = M.val l * M.val (m.take i) ∧ ∀ t, i + n ≤ t → o.getD t 0 = 0) (fun si _ => n' - (intOf si).toNat)
  case atStart => exact ⟨0, List.replicate (n + n') 0, Nat.zero_le _, rfl, by simp, Blk.made _ _, (Below.refl _ _).alloc (Nat.le_refl _) _, M.small_replicate _, by simp [M.val, M.val_replicate], fun t _ => by
    rw [List.getD_eq_getElem?_getD, List.getElem?_replicate]; split <;> rfl⟩
  case round =>
    obtain ⟨i, o, hi, rfl, ho, hblk, hbel, hsm, hval, hzr⟩ := hrel
    have HO := hid ho
    have HBL := hid hblk
    have HB := hid hbel
    have HSM := hid hsm
    have HV := hid hval
    have HZR := hid hzr
    clear ho hblk hbel hsm hval hzr
    by_cases hlt : i < n'
    · obtain ⟨ad', y, rfl, had', HY, hcell'⟩ := (HR'.out.keep HB.out (Nat.le_refl _)).get (k := i) (by rw [← HN'.out]; exact hlt)
      have hy9 := HS'.out y (List.mem_of_getElem? HY.out)
      go_wp2
      obtain ⟨wo, rfl⟩ : ∃ wo : World, wo = wr := ⟨_, rfl⟩
      go_loopw [8, 35] (fun cr sj wr => ∃ (j c : Nat) (o : List Nat), j ≤ n ∧ sj = .int .i64 (j : Int) ∧ cr = .int .u64 (c : Int) ∧ c < 1000000000 ∧ o.length = n + n' ∧ Blk wr w.heap.size o ∧ Below w.heap.size w wr ∧ M.small o = true ∧
        M.val o + 1000000000 ^ (i + j) * c = M.val l * M.val (m.take i) + 1000000000 ^ i * y * M.val (l.take j) ∧ ∀ t, i + n ≤ t → o.getD t 0 = 0) (fun _ sj _ => n - (intOf sj).toNat)
      case atStart => exact ⟨0, 0, o, Nat.zero_le _, rfl, rfl, by omega, HO.out, HBL.out, HB.out, HSM.out, by rw [HV.out]; simp [M.val], HZR.out⟩
      case round =>
        clear HO HBL HB HSM HV HZR
        obtain ⟨j, c, o, hj, rfl, rfl, hc9, ho, hblk, hbel, hsm, hval, hzr⟩ := hrel
        have HO := hid ho
        have HBL := hid hblk
        have HB := hid hbel
        have HSM := hid hsm
        have HV := hid hval
        have HZR := hid hzr
        clear ho hblk hbel hsm hval hzr
        by_cases hjn : j < n
        · obtain ⟨ad, x, rfl, had, HX, hcell⟩ := (HR.out.keep HB.out (Nat.le_refl _)).get (k := j) (by rw [← HN.out]; exact hjn)
          have hx9 := HS.out x (List.mem_of_getElem? HX.out)
          have hko : i + j < o.length := by rw [HO.out]; omega
          obtain ⟨z, hz⟩ : ∃ z, o[i + j]? = some z := ⟨_, List.getElem?_eq_getElem hko⟩
          have hz9 := M.small_iff.1 HSM.out z (List.mem_of_getElem? hz)
          have HZ := hid hz
          have hoc := HBL.out.cell hz
          have hof := HBL.out.frozen (i + j)
          obtain ⟨p, hp⟩ : ∃ p, p = y * x := ⟨_, rfl⟩
          have hpI : (y : Int) * (x : Int) = (p : Int) := by rw [hp]; simp
          obtain ⟨t, ht⟩ : ∃ t, t = p + z + c := ⟨_, rfl⟩
          obtain ⟨hp9, ht9⟩ := M.carry_lt hp hx9 hy9 hz9 hc9 ht
          have HP := hid hp
          have HT := hid ht
          clear hz hko hp ht
          go_wp2
          go_roundw
          case rel =>
            have ht := HT.out
            refine ⟨j + 1, t / 1000000000, o.set (i + j) (t % 1000000000), by omega, by go_num, ?_, ht9, by rw [List.length_set]; exact HO.out, HBL.out.put _ ?_, HB.out.setCell (Nat.le_refl _) _, M.small_set' HSM.out (by omega), ?_, fun s hs => ?_⟩
            · congr 1; omega
            · omega
            · rw [M.val_take HX.out, show i + (j + 1) = (i + j) + 1 by omega, Nat.pow_succ]
              exact M.mul_step HV.out (M.val_set_at HZ.out _) HT.out HP.out (Nat.pow_add _ _ _)
            · rw [M.getD_set (by omega)]; exact HZR.out s hs
          case measure => simp [intOf]; all_goals omega
        · have hjn' : j = n := by omega
          subst hjn'
          have hko : i + j < o.length := by rw [HO.out]; omega
          have hz := getD_some hko
          rw [HZR.out (i + j) (Nat.le_refl _)] at hz
          have HZ := hid hz
          have hoc := HBL.out.cell hz
          have hof := HBL.out.frozen (i + j)
          clear hz hko
          go_wp2
          go_roundw
          case rel =>
            refine ⟨i + 1, o.set (i + j) c, by omega, by go_num, by rw [List.length_set]; exact HO.out, HBL.out.put _ ?_, HB.out.setCell (Nat.le_refl _) _, M.small_set' HSM.out hc9, ?_, fun s hs => ?_⟩
            · omega
            · have h1 := HV.out
              rw [List.take_of_length_le (l := l) (by rw [← HN.out]; exact Nat.le_refl _)] at h1
              rw [M.val_take HY.out]
              exact M.mul_end h1 (M.val_set_at HZ.out _) rfl
            · rw [M.getD_set (by omega)]; exact HZR.out s (by omega)
          case measure => simp [intOf]; all_goals omega
    · have hin : i = n' := by omega
      subst hin
      have hov : M.val o = M.val l * M.val m := by rw [HV.out, List.take_of_length_le (by rw [← HN'.out]; exact Nat.le_refl _)]
      have HNUM := hid (HBL.out.num (fun x hx => by have := M.small_iff.1 HSM.out x hx; omega) (by rw [HO.out]; unfold maxLen; omega) HO.out.symm)
      have HOV := hid hov
      clear hov
      go_wp2_with fail
      refine (trimmed_any wr _ o HNUM.out HSM.out).mono ?_
      rintro e w' ⟨⟨v', rfl, hv'⟩, rfl⟩
      have HV' := hid hv'
      clear hv'
      go_wp2
      go_ret
      refine ⟨_, rfl, ?_, HB.out⟩
      rw [← HOV.out]
      exact HV'.out

theorem product_any (w : World) (u v : Value) (l m : List Nat) (hu : Num w w.heap.size u l) (hv : Num w w.heap.size v m) (hl : Hid (M.small l = true)) (hm : Hid (M.small m = true)) (hlen : Hid (l.length ≤ 100000000)) (hlen' : Hid (m.length ≤ 100000000)) (hmin : Hid (l.length < 64 ∨ m.length < 64)) :
    Calls Try.prog 70 #[u, v] w (Gives w (M.limbs (M.val l * M.val m))) := by
  have HC := hid (limbByLimb_any w u v l m hu hv hl hm hlen hlen')
  obtain ⟨A, n, c, rfl, hn, _⟩ := hu
  obtain ⟨A', n', c', rfl, hn', _⟩ := hv
  have hb : n ≤ 100000000 := by rw [hn]; exact hlen.out
  have hb' : n' ≤ 100000000 := by rw [hn']; exact hlen'.out
  have hmn : n < 64 ∨ n' < 64 := by rw [hn, hn']; exact hmin.out
  clear hn hn'
  obtain ⟨HX, HY⟩ : Hid (n < 64 ∨ n' < 64) ∧ True := ⟨hmn, trivial⟩
  clear hmn HY
  go_enter Try.func70, Try.ntmps70
  go_wp2_with fail
  all_goals (try (exfalso; have := HX.out; omega))
  all_goals
    refine HC.out.mono ?_
    rintro e w' ⟨v, rfl, hv, hb⟩
    have HV2 := hid hv
    have HB := hid hb
    clear hv hb
    go_wp2
    go_ret
    exact ⟨_, rfl, HV2.out, HB.out⟩

theorem mul_any (w : World) (u v : Value) (l m : List Nat) (hu : Num w w.heap.size u l) (hv : Num w w.heap.size v m) (hlen : Hid (l.length ≤ 100000000)) (hlen' : Hid (m.length ≤ 100000000)) (hmin : Hid (l.length < 64 ∨ m.length < 64)) :
    Calls Try.prog 57 #[u, v] w (Gives w (M.limbs (M.nv l * M.nv m))) := by
  have HU := hid hu
  have HV := hid hv
  clear hu hv
  go_enter Try.func57, Try.ntmps57
  go_wp2_with fail
  refine (natural_any w u l HU.out).mono ?_
  rintro e w' ⟨⟨u', rfl, hu'⟩, rfl⟩
  have HU' := hid hu'
  clear hu'
  go_wp2_with fail
  refine (natural_any w v m HV.out).mono ?_
  rintro e w' ⟨⟨v', rfl, hv'⟩, rfl⟩
  have HV' := hid hv'
  clear hv'
  go_wp2_with fail
  have h1 := M.nat_length l
  have h2 := M.nat_length m
  refine (product_any w u' v' _ _ HU'.out HV'.out (M.small_nat l) (M.small_nat m) (by have := hlen.out; unfold Hid; omega) (by have := hlen'.out; unfold Hid; omega) (by have := hmin.out; unfold Hid; omega)).mono ?_
  rw [M.val_nat, M.val_nat]
  rintro e w' ⟨v, rfl, hv, hb⟩
  have HV2 := hid hv
  have HB := hid hb
  clear hv hb
  go_wp2
  go_ret
  exact ⟨_, rfl, HV2.out, HB.out⟩
end Go.Proofs.Ytljjijcmoafndaa
