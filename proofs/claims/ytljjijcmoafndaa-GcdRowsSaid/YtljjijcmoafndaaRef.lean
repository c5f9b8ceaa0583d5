/-
  Contracts of the reference's functions on rows of limbs (package mullionref1): the same numbers.
-/
import Derived.Test.YtljjijcmoafndaaApp
import Derived.Deep.CutRange
import Derived.Deep.CutBlock
namespace Go.Proofs.Ytljjijcmoafndaa
set_option linter.unusedSimpArgs false
set_option linter.unusedVariables false
open Go.RowKit

namespace M
/- the reference's sums and products, by value -/
theorem rsum_step {S c k a b a' b' x y P V : Nat} (h : S = V + P * (c + (a + b))) (ha : a = x + 1000000000 * a') (hb : b = y + 1000000000 * b') (hk : k = c + x + y) : S = (V + P * (k % 1000000000)) + P * 1000000000 * (k / 1000000000 + (a' + b')) := by
  have h1 : c + (a + b) = k % 1000000000 + 1000000000 * (k / 1000000000 + (a' + b')) := by omega
  rw [h, h1, Nat.mul_add P, ← Nat.mul_assoc]
  omega
theorem rsmall_step {S c k a a' x m P V p : Nat} (h : S = V + P * (c + a * m)) (ha : a = x + 1000000000 * a') (hp : p = x * m) (hk : k = c + p) : S = (V + P * (k % 1000000000)) + P * 1000000000 * (k / 1000000000 + a' * m) := by
  have h0 : a * m = p + 1000000000 * (a' * m) := by rw [ha, Nat.add_mul, hp, Nat.mul_assoc]
  have h1 : c + a * m = k % 1000000000 + 1000000000 * (k / 1000000000 + a' * m) := by omega
  rw [h, h1, Nat.mul_add P, ← Nat.mul_assoc]
  omega
theorem val_snoc (l : List Nat) (x : Nat) : val (l ++ [x]) = val l + 1000000000 ^ l.length * x := by rw [val_append]; simp [val]
theorem val_drop_get {l : List Nat} {i x : Nat} (h : l[i]? = some x) : val (l.drop i) = x + 1000000000 * val (l.drop (i + 1)) := by rw [drop_at h]; rfl
theorem val_drop_none {l : List Nat} {i : Nat} (h : l.length ≤ i) : val (l.drop i) = 0 + 1000000000 * val (l.drop (i + 1)) := by
  rw [List.drop_eq_nil_of_le h, List.drop_eq_nil_of_le (by omega)]; rfl
end M

theorem rIs_any (w : World) (v : Value) (l : List Nat) {C : Nat} (hv : Num w C v l) :
    Calls Try.prog 32 #[v] w fun e w' => e = .returned (.bool (M.isNat l)) ∧ w = w' := by
  obtain ⟨A, n, c, rfl, hn, hc, hm, hs, hr⟩ := hv
  have hb : n ≤ 9223372036854775807 := by unfold maxLen at hm; omega
  have HR := hid hr
  have HN := hid hn
  have HS := hid hs
  clear hr hn hs hm hc
  go_enter Try.func32, Try.ntmps32
  go_wp2
  go_loop [3] (fun i => ∃ k : Nat, k ≤ n ∧ i = .int .i64 k ∧ M.small (l.take k) = true) (fun i => n - (intOf i).toNat)
  case atStart => exact ⟨0, Nat.zero_le _, rfl, rfl⟩
  case round =>
    obtain ⟨k, hk, rfl, hsm⟩ := hrel
    have HSM := hid hsm
    clear hsm
    by_cases hlt : k < n
    · obtain ⟨ad, x, rfl, _, HX, hcell⟩ := HR.out.get (k := k) (by rw [← HN.out]; exact hlt)
      by_cases hx : (x : Int) < 1000000000
      · have hx1 := dec_lt hx
        have HX2 := hid hx
        clear hx
        go_wp2
        go_round
        case rel => exact ⟨k + 1, by omega, by go_num, M.small_snoc HX.out HSM.out (by have := HX2.out; omega)⟩
        case measure => simp [intOf]; all_goals omega
      · have hx1 : (1000000000 : Int) ≤ x := by omega
        go_wp2
        go_ret
        exact ⟨ret_bool (M.isNat_big HX.out (by omega)).symm, rfl⟩
    · by_cases h0 : n = 0
      · subst h0
        go_wp2
        go_ret
        have : l = [] := List.eq_nil_of_length_eq_zero HN.out.symm
        exact ⟨by subst this; rfl, rfl⟩
      · obtain ⟨ad, x, rfl, _, HX, hcell⟩ := HR.out.get (k := n - 1) (by rw [← HN.out]; omega)
        have h1 : 1 ≤ n := by omega
        go_wp2
        go_ret
        have e : M.isNat l = decide (x ≠ 0) := M.isNat_end (by have := HSM.out; rwa [List.take_of_length_le (by rw [← HN.out]; omega)] at this) (by rw [← HN.out]; exact HX.out)
        refine ⟨?_, rfl⟩
        rw [e]
        have : ¬ (n : Int) = 0 := by omega
        congr 2
        by_cases hx : x = 0 <;> simp [hx, this]
        all_goals omega

theorem rNat_any (w : World) (v : Value) (l : List Nat) {C : Nat} (hv : Num w C v l) :
    Calls Try.prog 45 #[v] w fun e w' => (∃ v', e = .returned v' ∧ Num w C v' (M.nat l)) ∧ w = w' := by
  have HV := hid hv
  have HI := hid (rIs_any w v l hv)
  clear hv
  by_cases h : M.isNat l = true
  · have H := hid h
    go_enter Try.func45, Try.ntmps45
    go_wp2_with fail
    refine HI.out.mono ?_
    rintro e w' ⟨rfl, rfl⟩
    go_wp2
    go_ret
    exact ⟨⟨_, rfl, by rw [M.nat, if_pos H.out]; exact HV.out⟩, rfl⟩
  · have h' : M.isNat l = false := by simpa using h
    have H := hid h'
    clear h
    go_enter Try.func45, Try.ntmps45
    go_wp2_with fail
    refine HI.out.mono ?_
    rintro e w' ⟨rfl, rfl⟩
    go_wp2
    go_ret
    exact ⟨⟨_, rfl, by rw [M.nat, if_neg (by rw [H.out]; simp)]; exact Num.nil _ _⟩, rfl⟩

theorem rTrim_any (w : World) (v : Value) (l : List Nat) {C : Nat} (hv : Num w C v l) (hsm : Hid (M.small l = true)) :
    Calls Try.prog 48 #[v] w fun e w' => (∃ v', e = .returned v' ∧ Num w C v' (M.limbs (M.val l))) ∧ w = w' := by
  obtain ⟨A, n, c, rfl, hn, hc, hm, hs, hr⟩ := hv
  have hb : n ≤ 9223372036854775807 := by unfold maxLen at hm; omega
  have HR := hid hr
  have HN := hid hn
  have HS := hid hs
  have HM := hid hm
  clear hr hn hs hm
  go_enter Try.func48, Try.ntmps48
  go_wp2
  go_loop [3] (fun s => ∃ k : Nat, k ≤ n ∧ s = .int .i64 (k : Int) ∧ M.val (l.take k) = M.val l) (fun s => (intOf s).toNat)
  case atStart => exact ⟨n, Nat.le_refl _, rfl, by rw [HN.out, List.take_length]⟩
  case round =>
    obtain ⟨k, hk, rfl, hval⟩ := hrel
    have HV := hid hval
    clear hval
    have hend : (∀ h : k - 1 < l.length, 0 < k → l[k - 1] ≠ 0) → Hid (Num w C (.slice A k c) (M.limbs (M.val l))) := fun hz => by
      have hkl : k ≤ l.length := by rw [← HN.out]; exact hk
      have e := M.take_done hsm.out hkl HV.out hz
      rw [← e]
      exact ⟨A, k, c, rfl, by rw [List.length_take]; omega, by omega, HM.out, fun x hx => HS.out x (List.mem_of_mem_take hx), HR.out.take k⟩
    by_cases h0 : k = 0
    · subst h0
      have H := hend (fun _ h => absurd h (by omega))
      clear hend
      go_wp2
      go_ret
      exact ⟨⟨_, rfl, H.out⟩, rfl⟩
    · have h1 : 1 ≤ k := by omega
      obtain ⟨ad, x, rfl, _, HX, hcell⟩ := HR.out.get (k := k - 1) (by rw [← HN.out]; omega)
      by_cases hx : x = 0
      · subst hx
        clear hend
        go_wp2
        go_round
        case rel =>
          refine ⟨k - 1, by omega, by congr 1; omega, ?_⟩
          have hlt : k - 1 < l.length := by rw [← HN.out]; omega
          have := M.take_nought hlt (by have := HX.out; rw [List.getElem?_eq_getElem hlt] at this; injection this)
          rw [this, show k - 1 + 1 = k by omega]; exact HV.out
        case measure => simp [intOf]; all_goals omega
      · have hx' : ((x : Int) == 0) = false := by simpa using hx
        have H := hend (fun h _ => by have := HX.out; rw [List.getElem?_eq_getElem h] at this; injection this with this; rw [this]; exact hx)
        clear hend
        go_wp2
        go_ret
        exact ⟨⟨_, rfl, H.out⟩, rfl⟩

theorem rCmp_any (w : World) (u v : Value) (l m : List Nat) {C D : Nat} (hu : Num w C u l) (hv : Num w D v m) :
    Calls Try.prog 40 #[u, v] w fun e w' => e = .returned (.int .i64 (M.cmp (M.nv l) (M.nv m))) ∧ ∃ k, w' = w.drewN k := by
  have HU := hid hu
  have HV := hid hv
  clear hu hv
  go_enter Try.func40, Try.ntmps40
  go_wp2_with fail
  refine (rNat_any w u l HU.out).mono ?_
  rintro e w' ⟨⟨u', rfl, hu'⟩, rfl⟩
  have HU' := hid hu'
  clear hu'
  go_wp2_with fail
  refine (rNat_any w v m HV.out).mono ?_
  rintro e w' ⟨⟨v', rfl, hv'⟩, rfl⟩
  have hu' := HU'.out
  obtain ⟨A, n, c, rfl, hn, hc, hm0, hs, hr⟩ := hu'
  obtain ⟨A', n', c', rfl, hn', hc', hm', hs', hr'⟩ := hv'
  have hb : n ≤ 9223372036854775807 := by unfold maxLen at hm0; omega
  have hb' : n' ≤ 9223372036854775807 := by unfold maxLen at hm'; omega
  have HR := hid hr
  have HR' := hid hr'
  have HN := hid hn
  have HN' := hid hn'
  clear hr hn hs hm0 hr' hn' hs' hm' hc hc'
  by_cases hnn : n = n'
  · subst hnn
    go_wp2
    go_loopw [7] (fun i wr => ∃ (k p : Nat) (z : Int), k ≤ n ∧ z = (k : Int) - 1 ∧ i = .int .i64 z ∧ wr = w.drewN p ∧ (M.nat l).drop k = (M.nat m).drop k) (fun i _ => (intOf i + 1).toNat)
    case atStart => exact ⟨n, 0, _, Nat.le_refl _, rfl, rfl, rfl, by rw [List.drop_eq_nil_of_le (by rw [← HN.out]; exact Nat.le_refl _), List.drop_eq_nil_of_le (by rw [← HN'.out]; exact Nat.le_refl _)]⟩
    case round =>
      obtain ⟨k, p, z, hk, hz, rfl, rfl, he⟩ := hrel
      have HE := hid he
      clear he
      rcases k with _ | k
      · obtain rfl : z = -1 := by omega
        clear hz
        go_wp2
        go_ret
        refine ⟨ret_int (M.cmp_zero.2 ?_).symm, p, rfl⟩
        have := HE.out
        simp only [List.drop_zero] at this
        rw [← M.val_nat l, ← M.val_nat m, this]
      · obtain rfl : z = (k : Int) := by omega
        clear hz
        have hlt : k < n := by omega
        obtain ⟨ad, x, rfl, _, HX, hcell⟩ := HR.out.get (k := k) (by rw [← HN.out]; exact hlt)
        obtain ⟨ad', x', rfl, _, HX', hcell'⟩ := HR'.out.get (k := k) (by rw [← HN'.out]; exact hlt)
        have HLT := fun (h : x < x') => M.val_lt_at' (M.small_nat l) HX.out HX'.out HE.out h
        have HGT := fun (h : x' < x) => M.val_lt_at' (M.small_nat m) HX'.out HX.out HE.out.symm h
        rw [M.val_nat, M.val_nat] at HLT HGT
        have HL := hid HLT
        have HG := hid HGT
        clear HLT HGT
        rcases (by omega : x = x' ∨ x < x' ∨ x' < x) with hx | hx | hx
        · subst hx
          go_wp2
          go_quiet (fail)
          go_wp2
          go_quiet (fail)
          go_wp2
          go_roundw
          case rel => exact ⟨k, _, _, by omega, rfl, rfl, rfl, M.drop_same HX.out HX'.out HE.out⟩
          case measure => simp [intOf]; all_goals omega
        · have HQ := hid (M.cmp_lt (HL.out hx))
          go_wp2
          go_quiet (fail)
          go_wp2
          go_ret
          exact ⟨ret_int HQ.out.symm, _, World.drewN_drewN _ _ _⟩
        · have HQ := hid (M.cmp_gt (HG.out hx))
          have hd : decide (x < x') = false := by simp; omega
          go_wp2
          go_quiet (fail)
          go_wp2
          go_quiet (fail)
          go_wp2
          go_ret
          exact ⟨ret_int HQ.out.symm, drew3 _ _ _ _⟩
  · have HX := hid hnn
    have HC := hid (M.cmp_len (M.isNat_nat l) (M.isNat_nat m) (by rw [← HN.out, ← HN'.out]; exact hnn))
    rcases (by omega : n < n' ∨ n' < n) with h | h
    · have H := hid (M.cmp_lt h)
      clear hnn
      go_wp2
      go_ret
      refine ⟨ret_int ?_, 0, rfl⟩
      have h1 := HC.out
      rw [← HN.out, ← HN'.out, H.out, M.val_nat, M.val_nat] at h1
      exact h1
    · have H := hid (M.cmp_gt h)
      have hd : decide (n < n') = false := by simp; omega
      clear hnn
      go_wp2
      go_ret
      refine ⟨ret_int ?_, 0, rfl⟩
      have h1 := HC.out
      rw [← HN.out, ← HN'.out, H.out, M.val_nat, M.val_nat] at h1
      exact h1

/-- A row made of one limb and another row: 'append([]uint32{low}, a...)', the noughts behind taken away. -/
theorem rShift_any (w : World) (v : Value) (l : List Nat) (x : Nat) (hv : Num w w.heap.size v l) (hs : Hid (M.small l = true)) (hx : (x : Int) < 1000000000) (hlen : Hid (l.length ≤ 100000000)) :
    Calls Try.prog 46 #[v, .int .u32 (x : Int)] w (Gives w (M.limbs (x + 1000000000 * M.val l))) := by
  have HV := hid hv
  clear hv
  go_enter Try.func46, Try.ntmps46
  go_wp2_with (at_builtin; refine wpList_appN rfl (.tmp 6) (.tmp 7) rfl w.heap.size _ [x] rfl (Own.one w x (by omega)) _ l rfl (HV.out.up (Ext.alloc w _)) (by have := hlen.out; simp; omega) (by simp) ?_)
  intro v' w' hown hgrow
  have HO := hid hown
  have HE := hid (show Ext w w' from (Ext.alloc w (.cells #[.int .u32 (x : Int)] 56)).below.trans ((Own.one w x (by omega)).below hgrow (Nat.le_refl _) (by simp)))
  clear hown hgrow
  go_wp2_with fail
  refine (rTrim_any _ _ ([x] ++ l) HO.out.num (by unfold Hid; rw [M.small_append]; exact ⟨by simp [M.small]; omega, hs.out⟩)).mono ?_
  rintro e w2 ⟨⟨v2, rfl, hv2⟩, rfl⟩
  have HV2 := hid hv2
  clear hv2
  go_wp2
  go_ret
  exact ⟨_, rfl, HV2.out, HE.out⟩

theorem rSmall_any (w : World) (v : Value) (l : List Nat) (m : Nat) (hv : Num w w.heap.size v l) (hl : Hid (M.small l = true)) (hm9 : (m : Int) ≤ 1000000000) (hlen : Hid (l.length ≤ 100000000)) :
    Calls Try.prog 47 #[v, .int .u64 (m : Int)] w (Gives w (M.limbs (M.val l * m))) := by
  obtain ⟨A, n, c, rfl, hn, hc, hm0, hs, hr⟩ := hv
  have hb : n ≤ 100000000 := by rw [hn]; exact hlen.out
  have HR := hid hr
  have HN := hid hn
  have HS := hid (M.small_iff.1 hl.out)
  clear hr hn hs hm0 hc
  go_enter Try.func47, Try.ntmps47
  go_wp2
  go_loopw [5, 6, 7] (fun v cr si wr => ∃ (i c : Nat) (xs : List Nat), si = .int .i64 (i : Int) ∧ cr = .int .u64 (c : Int) ∧ c < 1000000000 ∧ i ≤ n + 1 ∧ xs.length = i ∧ (n < i → c = 0) ∧ M.small xs = true ∧ Own w.heap.size wr v xs ∧ Below w.heap.size w wr ∧
    M.val l * m = M.val xs + 1000000000 ^ i * (c + M.val (l.drop i) * m)) (fun _ cr si _ => (n + 1 - (intOf si).toNat) * 2000000000 + (intOf cr).toNat)
  case atStart => exact ⟨0, 0, [], rfl, rfl, by omega, by omega, rfl, fun _ => rfl, rfl, Own.nil _ _, Below.refl _ _, by simp [M.val]⟩
  case round =>
    obtain ⟨i, c, xs, rfl, rfl, hc9, hi9, hxl, hni, hxs, hown, hbel, hval⟩ := hrel
    have HXL := hid hxl
    have HNI := hid hni
    have HXS := hid hxs
    have HO := hid hown
    have HB := hid hbel
    have HV := hid hval
    clear hxl hni hxs hown hbel hval
    by_cases hin : i < n
    · obtain ⟨ad, x, rfl, had, HX, hcell⟩ := (HR.out.keep HB.out (Nat.le_refl _)).get (k := i) (by rw [← HN.out]; exact hin)
      have hx9 := HS.out x (List.mem_of_getElem? HX.out)
      obtain ⟨p, hp⟩ : ∃ p, p = x * m := ⟨_, rfl⟩
      have hpI : (x : Int) * (m : Int) = (p : Int) := by rw [hp]; simp
      have hp9 : p ≤ 999999999000000000 := by rw [hp]; exact Nat.mul_le_mul (show x ≤ 999999999 by omega) (show m ≤ 1000000000 by omega)
      obtain ⟨k, hk⟩ : ∃ k, k = c + p := ⟨_, rfl⟩
      have hkI : (c : Int) + (p : Int) = (k : Int) := by omega
      have hk9 : k < 1000000000000000000 := by omega
      have HP := hid hp
      have HK := hid hk
      clear hp hk
      go_wp2_with (at_builtin; refine wpList_app1 rfl (.tmp 31) (.tmp 35) rfl w.heap.size _ xs rfl (HO.out.alloc _) wr.heap.size (k % 1000000000) rfl (by simp [go_sem]) (by omega) (by have := HXL.out; omega) (by have := HB.out.size; simp; omega) ?_)
      intro v' w' hown' hgrow
      have HO' := hid hown'
      have HG := hid hgrow
      clear hown' hgrow
      go_wp2
      go_roundw
      case rel =>
        refine ⟨i + 1, k / 1000000000, xs ++ [k % 1000000000], by go_num, by go_num, by omega, by omega, by rw [List.length_append, HXL.out]; rfl, fun h => absurd h (by omega), by rw [M.small_append]; exact ⟨HXS.out, by simp [M.small]; omega⟩, HO'.out, ?_, ?_⟩
        · have hz := HB.out.size
          exact (HB.out.alloc (by omega) _).trans ((HO.out.alloc _).below HG.out (Nat.le_refl _) (by simp; omega))
        · rw [M.val_snoc, HXL.out, Nat.pow_succ]
          exact M.rsmall_step HV.out (M.val_drop_get HX.out) HP.out HK.out
      case measure => simp [intOf]; omega
    · by_cases hc0 : 0 < c
      · have hin2 : i = n := by have := HNI.out; omega
        have HIN := hid hin2
        clear hin2
        have hd0 : decide (i < n) = false := by simpa using hin
        go_wp2_with (at_builtin; refine wpList_app1 rfl (.tmp 31) (.tmp 35) rfl w.heap.size _ xs rfl (HO.out.alloc _) wr.heap.size (c % 1000000000) rfl (by simp [go_sem]) (by omega) (by have := HXL.out; omega) (by have := HB.out.size; simp; omega) ?_)
        intro v' w' hown' hgrow
        have HO' := hid hown'
        have HG := hid hgrow
        clear hown' hgrow
        go_wp2
        go_roundw
        case rel =>
          refine ⟨i + 1, c / 1000000000, xs ++ [c % 1000000000], by go_num, by go_num, by omega, by have := HIN.out; omega, by rw [List.length_append, HXL.out]; rfl, fun _ => by omega, by rw [M.small_append]; exact ⟨HXS.out, by simp [M.small]; omega⟩, HO'.out, ?_, ?_⟩
          · have hz := HB.out.size
            exact (HB.out.alloc (by omega) _).trans ((HO.out.alloc _).below HG.out (Nat.le_refl _) (by simp; omega))
          · rw [M.val_snoc, HXL.out, Nat.pow_succ]
            exact M.rsmall_step (x := 0) (p := 0) HV.out (M.val_drop_none (by rw [← HN.out, HIN.out]; exact Nat.le_refl _)) (by simp) rfl
        case measure => simp [intOf]; omega
      · have hc1 : c = 0 := by omega
        subst hc1
        have hvv : M.val xs = M.val l * m := by
          have h1 := HV.out
          rw [List.drop_eq_nil_of_le (by rw [← HN.out]; omega)] at h1
          simp [M.val] at h1
          exact h1.symm
        have HVV := hid hvv
        clear hvv
        go_wp2_with fail
        refine (rTrim_any _ _ xs HO.out.num HXS.out).mono ?_
        rintro e w2 ⟨⟨v2, rfl, hv2⟩, rfl⟩
        have HV2 := hid hv2
        clear hv2
        go_wp2
        go_ret
        refine ⟨_, rfl, ?_, HB.out⟩
        rw [← HVV.out]
        exact HV2.out
end Go.Proofs.Ytljjijcmoafndaa
