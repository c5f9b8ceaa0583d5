/-
  Contracts of the reference's functions on rows of limbs (package mullionref1): the same numbers.
-/
import Derived.Test.YtkhmgdfhggejaaaGreatDoorWJB
import Derived.Deep.CutRange
import Derived.Deep.CutBlock
namespace Go.Proofs.YtkhmgdfhggejaaaGreatDoor
set_option linter.unusedSimpArgs false
set_option linter.unusedVariables false
open Go.RowKit
namespace M
/- the reference's sums and products, by value -/
theorem rsum_step {S c k a b a' b' x y P V : Nat} (h : S = V + P * (c + (a + b))) (ha : a = x + 1000000000 * a') (hb : b = y + 1000000000 * b') (hk : k = c + x + y) : S = (V + P * (k % 1000000000)) + P * 1000000000 * (k / 1000000000 + (a' + b')) := by
 have h1 : c + (a + b) = k % 1000000000 + 1000000000 * (k / 1000000000 + (a' + b')) := by omega
 rw [h, h1, Nat.mul_add P, ← Nat.mul_assoc]
 omega
theorem rsmall_step {S c k a a' x m P V p : Nat} (h : S = V + P * (c + a * m)) (ha : a = x + 1000000000 * a') (hp : p = x * m) (hk : k = c + p) : S = (V + P * (k % 1000000000)) + P * 1000000000 * (k / 1000000000 + a' * m) := by
 have h0 : a * m = p + 1000000000 * (a' * m) := by rw [ha, Nat.add_mul, hp, Nat.mul_assoc]
 have h1 : c + a * m = k % 1000000000 + 1000000000 * (k / 1000000000 + a' * m) := by omega
 rw [h, h1, Nat.mul_add P, ← Nat.mul_assoc]
 omega
theorem val_snoc (l : List Nat) (x : Nat) : val (l ++ [x]) = val l + 1000000000 ^ l.length * x := by rw [val_append]; simp [val]
theorem val_drop_get {l : List Nat} {i x : Nat} (h : l[i]? = some x) : val (l.drop i) = x + 1000000000 * val (l.drop (i + 1)) := by rw [drop_at h]; rfl
theorem val_drop_none {l : List Nat} {i : Nat} (h : l.length ≤ i) : val (l.drop i) = 0 + 1000000000 * val (l.drop (i + 1)) := by
 rw [List.drop_eq_nil_of_le h, List.drop_eq_nil_of_le (by omega)]; rfl
end M
theorem rIs_any (w : World) (v : Value) (l : List Nat) {C : Nat} (hv : Num w C v l) :
 Calls Tryz.prog 85 #[v] w fun e w' => e = .returned (.bool (M.isNat l)) ∧ w = w' := by
 obtain ⟨A, n, c, rfl, hn, hc, hm, hs, hr⟩ := hv
 have hb : n ≤ 9223372036854775807 := by unfold maxLen at hm; omega
 have HR := hid hr
 have HN := hid hn
 have HS := hid hs
 clear hr hn hs hm hc
 go_enter Tryz.func85, Tryz.ntmps85
 go_wp2
 go_loop [3] (fun i => ∃ k : Nat, k ≤ n ∧ i = .int .i64 k ∧ M.small (l.take k) = true) (fun i => n - (intOf i).toNat)
 case atStart => exact ⟨0, Nat.zero_le _, rfl, rfl⟩
 case round =>
  obtain ⟨k, hk, rfl, hsm⟩ := hrel
  have HSM := hid hsm
  clear hsm
  by_cases hlt : k < n
  ·obtain ⟨ad, x, rfl, _, HX, hcell⟩ := HR.out.get (k := k) (by rw [← HN.out]; exact hlt)
   by_cases hx : (x : Int) < 1000000000
   ·have hx1 := dec_lt hx
    have HX2 := hid hx
    clear hx
    go_wp2
    go_round
    case rel => exact ⟨k + 1, by omega, by go_num, M.small_snoc HX.out HSM.out (by have := HX2.out; omega)⟩
    case measure => simp [intOf]; all_goals omega
   ·have hx1 : (1000000000 : Int) ≤ x := by omega
    go_wp2
    go_ret
    exact ⟨ret_bool (M.isNat_big HX.out (by omega)).symm, rfl⟩
  ·by_cases h0 : n = 0
   ·subst h0
    go_wp2
    go_ret
    have : l = [] := List.eq_nil_of_length_eq_zero HN.out.symm
    exact ⟨by subst this; rfl, rfl⟩
   ·obtain ⟨ad, x, rfl, _, HX, hcell⟩ := HR.out.get (k := n - 1) (by rw [← HN.out]; omega)
    have h1 : 1 ≤ n := by omega
    go_wp2
    go_ret
    have e : M.isNat l = decide (x ≠ 0) := M.isNat_end (by have := HSM.out; rwa [List.take_of_length_le (by rw [← HN.out]; omega)] at this) (by rw [← HN.out]; exact HX.out)
    refine ⟨?_, rfl⟩
    rw [e]
    have : ¬ (n : Int) = 0 := by omega
    congr 2
    by_cases hx : x = 0 <;> simp [hx, this]
    all_goals omega
theorem rNat_any (w : World) (v : Value) (l : List Nat) {C : Nat} (hv : Num w C v l) :
 Calls Tryz.prog 64 #[v] w fun e w' => (∃ v', e = .returned v' ∧ Num w C v' (M.nat l)) ∧ w = w' := by
 have HV := hid hv
 have HI := hid (rIs_any w v l hv)
 clear hv
 by_cases h : M.isNat l = true
 ·have H := hid h
  go_enter Tryz.func64, Tryz.ntmps64
  go_wp2_with fail
  refine HI.out.mono ?_
  rintro e w' ⟨rfl, rfl⟩
  go_wp2
  go_ret
  exact ⟨⟨_, rfl, by rw [M.nat, if_pos H.out]; exact HV.out⟩, rfl⟩
 ·have h' : M.isNat l = false := by simpa using h
  have H := hid h'
  clear h
  go_enter Tryz.func64, Tryz.ntmps64
  go_wp2_with fail
  refine HI.out.mono ?_
  rintro e w' ⟨rfl, rfl⟩
  go_wp2
  go_ret
  exact ⟨⟨_, rfl, by rw [M.nat, if_neg (by rw [H.out]; simp)]; exact Num.nil _ _⟩, rfl⟩
theorem rTrim_any (w : World) (v : Value) (l : List Nat) {C : Nat} (hv : Num w C v l) (hsm : Hid (M.small l = true)) :
 Calls Tryz.prog 67 #[v] w fun e w' => (∃ v', e = .returned v' ∧ Num w C v' (M.limbs (M.val l))) ∧ w = w' := by
 obtain ⟨A, n, c, rfl, hn, hc, hm, hs, hr⟩ := hv
 have hb : n ≤ 9223372036854775807 := by unfold maxLen at hm; omega
 have HR := hid hr
 have HN := hid hn
 have HS := hid hs
 have HM := hid hm
 clear hr hn hs hm
 go_enter Tryz.func67, Tryz.ntmps67
 go_wp2
 go_loop [3] (fun s => ∃ k : Nat, k ≤ n ∧ s = .int .i64 (k : Int) ∧ M.val (l.take k) = M.val l) (fun s => (intOf s).toNat)
 case atStart => exact ⟨n, Nat.le_refl _, rfl, by rw [HN.out, List.take_length]⟩
 case round =>
  obtain ⟨k, hk, rfl, hval⟩ := hrel
  have HV := hid hval
  clear hval
  have hend : (∀ h : k - 1 < l.length, 0 < k → l[k - 1] ≠ 0) → Hid (Num w C (.slice A k c) (M.limbs (M.val l))) := fun hz => by
   have hkl : k ≤ l.length := by rw [← HN.out]; exact hk
   have e := M.take_done hsm.out hkl HV.out hz
   rw [← e]
   exact ⟨A, k, c, rfl, by rw [List.length_take]; omega, by omega, HM.out, fun x hx => HS.out x (List.mem_of_mem_take hx), HR.out.take k⟩
  by_cases h0 : k = 0
  ·subst h0
   have H := hend (fun _ h => absurd h (by omega))
   clear hend
   go_wp2
   go_ret
   exact ⟨⟨_, rfl, H.out⟩, rfl⟩
  ·have h1 : 1 ≤ k := by omega
   obtain ⟨ad, x, rfl, _, HX, hcell⟩ := HR.out.get (k := k - 1) (by rw [← HN.out]; omega)
   by_cases hx : x = 0
   ·subst hx
    clear hend
    go_wp2
    go_round
    case rel =>
     refine ⟨k - 1, by omega, by congr 1; omega, ?_⟩
     have hlt : k - 1 < l.length := by rw [← HN.out]; omega
     have := M.take_nought hlt (by have := HX.out; rw [List.getElem?_eq_getElem hlt] at this; injection this)
     rw [this, show k - 1 + 1 = k by omega]; exact HV.out
    case measure => simp [intOf]; all_goals omega
   ·have hx' : ((x : Int) == 0) = false := by simpa using hx
    have H := hend (fun h _ => by have := HX.out; rw [List.getElem?_eq_getElem h] at this; injection this with this; rw [this]; exact hx)
    clear hend
    go_wp2
    go_ret
    exact ⟨⟨_, rfl, H.out⟩, rfl⟩
theorem rCmp_any (w : World) (u v : Value) (l m : List Nat) {C D : Nat} (hu : Num w C u l) (hv : Num w D v m) :
 Calls Tryz.prog 37 #[u, v] w fun e w' => e = .returned (.int .i64 (M.cmp (M.nv l) (M.nv m))) ∧ ∃ k, w' = w.drewN k := by
 have HU := hid hu
 have HV := hid hv
 clear hu hv
 go_enter Tryz.func37, Tryz.ntmps37
 go_wp2_with fail
 refine (rNat_any w u l HU.out).mono ?_
 rintro e w' ⟨⟨u', rfl, hu'⟩, rfl⟩
 have HU' := hid hu'
 clear hu'
 go_wp2_with fail
 refine (rNat_any w v m HV.out).mono ?_
 rintro e w' ⟨⟨v', rfl, hv'⟩, rfl⟩
 have hu' := HU'.out
 obtain ⟨A, n, c, rfl, hn, hc, hm0, hs, hr⟩ := hu'
 obtain ⟨A', n', c', rfl, hn', hc', hm', hs', hr'⟩ := hv'
 have hb : n ≤ 9223372036854775807 := by unfold maxLen at hm0; omega
 have hb' : n' ≤ 9223372036854775807 := by unfold maxLen at hm'; omega
 have HR := hid hr
 have HR' := hid hr'
 have HN := hid hn
 have HN' := hid hn'
 clear hr hn hs hm0 hr' hn' hs' hm' hc hc'
 by_cases hnn : n = n'
 ·subst hnn
  go_wp2
  go_loopw [7] (fun i wr => ∃ (k p : Nat) (z : Int), k ≤ n ∧ z = (k : Int) - 1 ∧ i = .int .i64 z ∧ wr = w.drewN p ∧ (M.nat l).drop k = (M.nat m).drop k) (fun i _ => (intOf i + 1).toNat)
  case atStart => exact ⟨n, 0, _, Nat.le_refl _, rfl, rfl, rfl, by rw [List.drop_eq_nil_of_le (by rw [← HN.out]; exact Nat.le_refl _), List.drop_eq_nil_of_le (by rw [← HN'.out]; exact Nat.le_refl _)]⟩
  case round =>
   obtain ⟨k, p, z, hk, hz, rfl, rfl, he⟩ := hrel
   have HE := hid he
   clear he
   rcases k with _ | k
   ·obtain rfl : z = -1 := by omega
    clear hz
    go_wp2
    go_ret
    refine ⟨ret_int (M.cmp_zero.2 ?_).symm, p, rfl⟩
    have := HE.out
    simp only [List.drop_zero] at this
    rw [← M.val_nat l, ← M.val_nat m, this]
   ·obtain rfl : z = (k : Int) := by omega
    clear hz
    have hlt : k < n := by omega
    obtain ⟨ad, x, rfl, _, HX, hcell⟩ := HR.out.get (k := k) (by rw [← HN.out]; exact hlt)
    obtain ⟨ad', x', rfl, _, HX', hcell'⟩ := HR'.out.get (k := k) (by rw [← HN'.out]; exact hlt)
    have HLT := fun (h : x < x') => M.val_lt_at' (M.small_nat l) HX.out HX'.out HE.out h
    have HGT := fun (h : x' < x) => M.val_lt_at' (M.small_nat m) HX'.out HX.out HE.out.symm h
    rw [M.val_nat, M.val_nat] at HLT HGT
    have HL := hid HLT
    have HG := hid HGT
    clear HLT HGT
    rcases (by omega : x = x' ∨ x < x' ∨ x' < x) with hx | hx | hx
    ·subst hx
     go_wp2
     go_quiet (fail)
     go_wp2
     go_quiet (fail)
     go_wp2
     go_roundw
     case rel => exact ⟨k, _, _, by omega, rfl, rfl, rfl, M.drop_same HX.out HX'.out HE.out⟩
     case measure => simp [intOf]; all_goals omega
    ·have HQ := hid (M.cmp_lt (HL.out hx))
     go_wp2
     go_quiet (fail)
     go_wp2
     go_ret
     exact ⟨ret_int HQ.out.symm, _, World.drewN_drewN _ _ _⟩
    ·have HQ := hid (M.cmp_gt (HG.out hx))
     have hd : decide (x < x') = false := by simp; omega
     go_wp2
     go_quiet (fail)
     go_wp2
     go_quiet (fail)
     go_wp2
     go_ret
     exact ⟨ret_int HQ.out.symm, drew3 _ _ _ _⟩
 ·have HX := hid hnn
  have HC := hid (M.cmp_len (M.isNat_nat l) (M.isNat_nat m) (by rw [← HN.out, ← HN'.out]; exact hnn))
  rcases (by omega : n < n' ∨ n' < n) with h | h
  ·have H := hid (M.cmp_lt h)
   clear hnn
   go_wp2
   go_ret
   refine ⟨ret_int ?_, 0, rfl⟩
   have h1 := HC.out
   rw [← HN.out, ← HN'.out, H.out, M.val_nat, M.val_nat] at h1
   exact h1
  ·have H := hid (M.cmp_gt h)
   have hd : decide (n < n') = false := by simp; omega
   clear hnn
   go_wp2
   go_ret
   refine ⟨ret_int ?_, 0, rfl⟩
   have h1 := HC.out
   rw [← HN.out, ← HN'.out, H.out, M.val_nat, M.val_nat] at h1
   exact h1
theorem rShift_any (w : World) (v : Value) (l : List Nat) (x : Nat) (hv : Num w w.heap.size v l) (hs : Hid (M.small l = true)) (hx : (x : Int) < 1000000000) (hlen : Hid (l.length ≤ 100000000)) :
 Calls Tryz.prog 68 #[v, .int .u32 (x : Int)] w (Gives w (M.limbs (x + 1000000000 * M.val l))) := by
 have HV := hid hv
 clear hv
 go_enter Tryz.func68, Tryz.ntmps68
 go_wp2_with (at_builtin; refine wpList_appN rfl (.tmp 6) (.tmp 7) rfl w.heap.size _ [x] rfl (Own.one w x (by omega)) _ l rfl (HV.out.up (Ext.alloc w _)) (by have := hlen.out; simp; omega) (by simp) ?_)
 intro v' w' hown hgrow
 have HO := hid hown
 have HE := hid (show Ext w w' from (Ext.alloc w (.cells #[.int .u32 (x : Int)] 97)).below.trans ((Own.one w x (by omega)).below hgrow (Nat.le_refl _) (by simp)))
 clear hown hgrow
 go_wp2_with fail
 refine (rTrim_any _ _ ([x] ++ l) HO.out.num (by unfold Hid; rw [M.small_append]; exact ⟨by simp [M.small]; omega, hs.out⟩)).mono ?_
 rintro e w2 ⟨⟨v2, rfl, hv2⟩, rfl⟩
 have HV2 := hid hv2
 clear hv2
 go_wp2
 go_ret
 exact ⟨_, rfl, HV2.out, HE.out⟩
theorem rSmall_any (w : World) (v : Value) (l : List Nat) (m : Nat) (hv : Num w w.heap.size v l) (hl : Hid (M.small l = true)) (hm9 : (m : Int) ≤ 1000000000) (hlen : Hid (l.length ≤ 100000000)) :
 Calls Tryz.prog 69 #[v, .int .u64 (m : Int)] w (Gives w (M.limbs (M.val l * m))) := by
 obtain ⟨A, n, c, rfl, hn, hc, hm0, hs, hr⟩ := hv
 have hb : n ≤ 100000000 := by rw [hn]; exact hlen.out
 have HR := hid hr
 have HN := hid hn
 have HS := hid (M.small_iff.1 hl.out)
 clear hr hn hs hm0 hc
 go_enter Tryz.func69, Tryz.ntmps69
 go_wp2
 go_loopw [5, 6, 7] (fun v cr si wr => ∃ (i c : Nat) (xs : List Nat), si = .int .i64 (i : Int) ∧ cr = .int .u64 (c : Int) ∧ c < 1000000000 ∧ i ≤ n + 1 ∧ xs.length = i ∧ (n < i → c = 0) ∧ M.small xs = true ∧ Own w.heap.size wr v xs ∧ Below w.heap.size w wr ∧
  M.val l * m = M.val xs + 1000000000 ^ i * (c + M.val (l.drop i) * m)) (fun _ cr si _ => (n + 1 - (intOf si).toNat) * 2000000000 + (intOf cr).toNat)
 case atStart => exact ⟨0, 0, [], rfl, rfl, by omega, by omega, rfl, fun _ => rfl, rfl, Own.nil _ _, Below.refl _ _, by simp [M.val]⟩
 case round =>
  obtain ⟨i, c, xs, rfl, rfl, hc9, hi9, hxl, hni, hxs, hown, hbel, hval⟩ := hrel
  have HXL := hid hxl
  have HNI := hid hni
  have HXS := hid hxs
  have HO := hid hown
  have HB := hid hbel
  have HV := hid hval
  clear hxl hni hxs hown hbel hval
  by_cases hin : i < n
  ·obtain ⟨ad, x, rfl, had, HX, hcell⟩ := (HR.out.keep HB.out (Nat.le_refl _)).get (k := i) (by rw [← HN.out]; exact hin)
   have hx9 := HS.out x (List.mem_of_getElem? HX.out)
   obtain ⟨p, hp⟩ : ∃ p, p = x * m := ⟨_, rfl⟩
   have hpI : (x : Int) * (m : Int) = (p : Int) := by rw [hp]; simp
   have hp9 : p ≤ 999999999000000000 := by rw [hp]; exact Nat.mul_le_mul (show x ≤ 999999999 by omega) (show m ≤ 1000000000 by omega)
   obtain ⟨k, hk⟩ : ∃ k, k = c + p := ⟨_, rfl⟩
   have hkI : (c : Int) + (p : Int) = (k : Int) := by omega
   have hk9 : k < 1000000000000000000 := by omega
   have HP := hid hp
   have HK := hid hk
   clear hp hk
   go_wp2_with (at_builtin; refine wpList_app1 rfl (.tmp 31) (.tmp 35) rfl w.heap.size _ xs rfl (HO.out.alloc _) wr.heap.size (k % 1000000000) rfl (by simp [go_sem]) (by omega) (by have := HXL.out; omega) (by have := HB.out.size; simp; omega) ?_)
   intro v' w' hown' hgrow
   have HO' := hid hown'
   have HG := hid hgrow
   clear hown' hgrow
   go_wp2
   go_roundw
   case rel =>
    refine ⟨i + 1, k / 1000000000, xs ++ [k % 1000000000], by go_num, by go_num, by omega, by omega, by rw [List.length_append, HXL.out]; rfl, fun h => absurd h (by omega), by rw [M.small_append]; exact ⟨HXS.out, by simp [M.small]; omega⟩, HO'.out, ?_, ?_⟩
    ·have hz := HB.out.size
     exact (HB.out.alloc (by omega) _).trans ((HO.out.alloc _).below HG.out (Nat.le_refl _) (by simp; omega))
    ·rw [M.val_snoc, HXL.out, Nat.pow_succ]
     exact M.rsmall_step HV.out (M.val_drop_get HX.out) HP.out HK.out
   case measure => simp [intOf]; omega
  ·by_cases hc0 : 0 < c
   ·have hin2 : i = n := by have := HNI.out; omega
    have HIN := hid hin2
    clear hin2
    have hd0 : decide (i < n) = false := by simpa using hin
    go_wp2_with (at_builtin; refine wpList_app1 rfl (.tmp 31) (.tmp 35) rfl w.heap.size _ xs rfl (HO.out.alloc _) wr.heap.size (c % 1000000000) rfl (by simp [go_sem]) (by omega) (by have := HXL.out; omega) (by have := HB.out.size; simp; omega) ?_)
    intro v' w' hown' hgrow
    have HO' := hid hown'
    have HG := hid hgrow
    clear hown' hgrow
    go_wp2
    go_roundw
    case rel =>
     refine ⟨i + 1, c / 1000000000, xs ++ [c % 1000000000], by go_num, by go_num, by omega, by have := HIN.out; omega, by rw [List.length_append, HXL.out]; rfl, fun _ => by omega, by rw [M.small_append]; exact ⟨HXS.out, by simp [M.small]; omega⟩, HO'.out, ?_, ?_⟩
     ·have hz := HB.out.size
      exact (HB.out.alloc (by omega) _).trans ((HO.out.alloc _).below HG.out (Nat.le_refl _) (by simp; omega))
     ·rw [M.val_snoc, HXL.out, Nat.pow_succ]
      exact M.rsmall_step (x := 0) (p := 0) HV.out (M.val_drop_none (by rw [← HN.out, HIN.out]; exact Nat.le_refl _)) (by simp) rfl
    case measure => simp [intOf]; omega
   ·have hc1 : c = 0 := by omega
    subst hc1
    have hvv : M.val xs = M.val l * m := by
     have h1 := HV.out
     rw [List.drop_eq_nil_of_le (by rw [← HN.out]; omega)] at h1
     simp [M.val] at h1
     exact h1.symm
    have HVV := hid hvv
    clear hvv
    go_wp2_with fail
    refine (rTrim_any _ _ xs HO.out.num HXS.out).mono ?_
    rintro e w2 ⟨⟨v2, rfl, hv2⟩, rfl⟩
    have HV2 := hid hv2
    clear hv2
    go_wp2
    go_ret
    refine ⟨_, rfl, ?_, HB.out⟩
    rw [← HVV.out]
    exact HV2.out
theorem rAdd_any (w : World) (u v : Value) (l m : List Nat) (hu : Num w w.heap.size u l) (hv : Num w w.heap.size v m) (hlen : Hid (l.length ≤ 100000000)) (hlen' : Hid (m.length ≤ 100000000)) :
 Calls Tryz.prog 43 #[u, v] w (Gives w (M.limbs (M.nv l + M.nv m))) := by
 have HU := hid hu
 have HV := hid hv
 clear hu hv
 go_enter Tryz.func43, Tryz.ntmps43
 go_wp2_with fail
 refine (rNat_any w u l HU.out).mono ?_
 rintro e w' ⟨⟨u', rfl, hu'⟩, rfl⟩
 have HU' := hid hu'
 clear hu'
 go_wp2_with fail
 refine (rNat_any w v m HV.out).mono ?_
 rintro e w' ⟨⟨v', rfl, hv'⟩, rfl⟩
 have hu' := HU'.out
 clear HU HV HU'
 obtain ⟨a, ha⟩ : ∃ a, a = M.nat l := ⟨_, rfl⟩
 obtain ⟨b, hb⟩ : ∃ b, b = M.nat m := ⟨_, rfl⟩
 have hS : M.nv l + M.nv m = M.val a + M.val b := by rw [ha, hb, M.val_nat, M.val_nat]
 have hsa := M.small_nat l
 have hsb := M.small_nat m
 have hla := M.nat_length l
 have hlb := M.nat_length m
 rw [← ha] at hu' hsa hla
 rw [← hb] at hv' hsb hlb
 have HSUM := hid hS
 obtain ⟨A, n, c, rfl, hn, hc, hm0, hs, hr⟩ := hu'
 obtain ⟨A', n', c', rfl, hn', hc', hm', hs', hr'⟩ := hv'
 have hn9 : n ≤ 100000000 := by have := hlen.out; omega
 have hn9' : n' ≤ 100000000 := by have := hlen'.out; omega
 have HR := hid hr
 have HR' := hid hr'
 have HN := hid hn
 have HN' := hid hn'
 have HS := hid (M.small_iff.1 hsa)
 have HS' := hid (M.small_iff.1 hsb)
 clear hr hn hs hm0 hr' hn' hs' hm' hc hc' ha hb hS hsa hsb hla hlb
 go_wp2
 go_loopw [7, 8, 9] (fun v cr si wr => ∃ (i c : Nat) (xs : List Nat), si = .int .i64 (i : Int) ∧ cr = .int .u64 (c : Int) ∧ c ≤ 1 ∧ i ≤ max n n' + 1 ∧ xs.length = i ∧ (max n n' < i → c = 0) ∧ M.small xs = true ∧ Own w.heap.size wr v xs ∧ Below w.heap.size w wr ∧
  M.val a + M.val b = M.val xs + 1000000000 ^ i * (c + (M.val (a.drop i) + M.val (b.drop i)))) (fun _ cr si _ => (max n n' + 1 - (intOf si).toNat) * 10 + (intOf cr).toNat)
 case atStart => exact ⟨0, 0, [], rfl, rfl, by omega, by omega, rfl, fun _ => rfl, rfl, Own.nil _ _, Below.refl _ _, by simp [M.val]⟩
 case round =>
  obtain ⟨i, c, xs, rfl, rfl, hc9, hi9, hxl, hni, hxs, hown, hbel, hval⟩ := hrel
  have HXL := hid hxl
  have HNI := hid hni
  have HXS := hid hxs
  have HO := hid hown
  have HB := hid hbel
  have HV := hid hval
  clear hxl hni hxs hown hbel hval
  by_cases hgo : i < max n n' ∨ 0 < c
  ·have hdx : ∃ x, x < 1000000000 ∧ Hid (M.val (a.drop i) = x + 1000000000 * M.val (a.drop (i + 1))) ∧ (i < n → ∃ ad, A = some ad ∧ wr.cell? (ad.add i) = some (.int .u32 (x : Int))) ∧ (¬ i < n → x = 0) := by
    by_cases h : i < n
    ·obtain ⟨ad, x, e, _, HX, hcell⟩ := (HR.out.keep HB.out (Nat.le_refl _)).get (k := i) (by rw [← HN.out]; exact h)
     exact ⟨x, HS.out x (List.mem_of_getElem? HX.out), M.val_drop_get HX.out, fun _ => ⟨ad, e, hcell⟩, fun h' => absurd h h'⟩
    ·exact ⟨0, by omega, M.val_drop_none (by rw [← HN.out]; omega), fun h' => absurd h' h, fun _ => rfl⟩
   have hdy : ∃ y, y < 1000000000 ∧ Hid (M.val (b.drop i) = y + 1000000000 * M.val (b.drop (i + 1))) ∧ (i < n' → ∃ ad, A' = some ad ∧ wr.cell? (ad.add i) = some (.int .u32 (y : Int))) ∧ (¬ i < n' → y = 0) := by
    by_cases h : i < n'
    ·obtain ⟨ad, x, e, _, HX, hcell⟩ := (HR'.out.keep HB.out (Nat.le_refl _)).get (k := i) (by rw [← HN'.out]; exact h)
     exact ⟨x, HS'.out x (List.mem_of_getElem? HX.out), M.val_drop_get HX.out, fun _ => ⟨ad, e, hcell⟩, fun h' => absurd h h'⟩
    ·exact ⟨0, by omega, M.val_drop_none (by rw [← HN'.out]; omega), fun h' => absurd h' h, fun _ => rfl⟩
   obtain ⟨x, hx9, HDX, hx1, hx0⟩ := hdx
   obtain ⟨y, hy9, HDY, hy1, hy0⟩ := hdy
   obtain ⟨k, hk⟩ : ∃ k, k = c + x + y := ⟨_, rfl⟩
   have HK := hid hk
   have HGO := hid hgo
   have HZ := hid (show ¬ (i < n ∨ i < n') → x = 0 ∧ y = 0 from fun h => ⟨hx0 (by omega), hy0 (by omega)⟩)
   have fin : ∀ (v' : Value) (w' : World), Hid (Own w.heap.size w' v' (xs ++ [k % 1000000000])) → Hid (Below w.heap.size w w') →
    ∃ (j d : Nat) (ys : List Nat), j = i + 1 ∧ d = k / 1000000000 ∧ d ≤ 1 ∧ j ≤ max n n' + 1 ∧ ys.length = j ∧ (max n n' < j → d = 0) ∧ M.small ys = true ∧ Own w.heap.size w' v' ys ∧ Below w.heap.size w w' ∧
    M.val a + M.val b = M.val ys + 1000000000 ^ j * (d + (M.val (a.drop j) + M.val (b.drop j))) := by
    intro v' w' h1 h2
    refine ⟨i + 1, k / 1000000000, xs ++ [k % 1000000000], rfl, rfl, by omega, ?_, by rw [List.length_append, HXL.out]; rfl, fun h => ?_, by rw [M.small_append]; exact ⟨HXS.out, by simp [M.small]; omega⟩, h1.out, h2.out, ?_⟩
    ·have := HGO.out; have := HNI.out; omega
    ·have h3 := HZ.out (by have := HGO.out; omega)
     omega
    ·rw [M.val_snoc, HXL.out, Nat.pow_succ]
     exact M.rsum_step HV.out HDX.out HDY.out HK.out
   rcases (by omega : i < n ∨ ¬ i < n) with h1 | h1 <;> rcases (by omega : i < n' ∨ ¬ i < n') with h2 | h2
   ·obtain ⟨ad, rfl, hcx⟩ := hx1 h1
    obtain ⟨ad', rfl, hcy⟩ := hy1 h2
    clear hx1 hx0 hy1 hy0 hk HGO HZ hgo
    have hkI : (c : Int) + (x : Int) + (y : Int) = (k : Int) := by have := HK.out; omega
    have hk9 : k ≤ 2000000000 := by have := HK.out; omega
    have hle : n < n' ∨ ¬ n < n' := by omega
    rcases hle with hle | hle
    all_goals
     go_wp2_with (at_builtin; refine wpList_app1 rfl (.tmp 49) (.tmp 53) rfl w.heap.size _ xs rfl (HO.out.alloc _) wr.heap.size (k % 1000000000) rfl (by simp [go_sem]) (by omega) (by have := HXL.out; omega) (by have := HB.out.size; simp; omega) ?_)
     intro v' w' hown' hgrow
     have HO' := hid hown'
     have HG := hid hgrow
     clear hown' hgrow
     have hz := HB.out.size
     obtain ⟨j, d, ys, hj, hd, hf⟩ := fin v' w' HO'.out ((HB.out.alloc (by omega) _).trans ((HO.out.alloc _).below HG.out (Nat.le_refl _) (by simp; omega)))
     have HF := hid hf
     have HJ := hid hj
     have HD := hid hd
     clear hf hj hd fin hz
     go_wp2
     go_roundw
     case rel => exact ⟨j, d, ys, by rw [HJ.out]; go_num, by rw [HD.out]; go_num, HF.out⟩
     case measure => simp [intOf]; omega
   ·obtain ⟨ad, rfl, hcx⟩ := hx1 h1
    obtain rfl : y = 0 := hy0 h2
    clear hx1 hx0 hy1 hy0 hk HGO HZ hgo
    have hkI : (c : Int) + (x : Int) = (k : Int) := by have := HK.out; omega
    have hk9 : k ≤ 2000000000 := by have := HK.out; omega
    have hle : ¬ n < n' := by omega
    all_goals
     go_wp2_with (at_builtin; refine wpList_app1 rfl (.tmp 49) (.tmp 53) rfl w.heap.size _ xs rfl (HO.out.alloc _) wr.heap.size (k % 1000000000) rfl (by simp [go_sem]) (by omega) (by have := HXL.out; omega) (by have := HB.out.size; simp; omega) ?_)
     intro v' w' hown' hgrow
     have HO' := hid hown'
     have HG := hid hgrow
     clear hown' hgrow
     have hz := HB.out.size
     obtain ⟨j, d, ys, hj, hd, hf⟩ := fin v' w' HO'.out ((HB.out.alloc (by omega) _).trans ((HO.out.alloc _).below HG.out (Nat.le_refl _) (by simp; omega)))
     have HF := hid hf
     have HJ := hid hj
     have HD := hid hd
     clear hf hj hd fin hz
     go_wp2
     go_roundw
     case rel => exact ⟨j, d, ys, by rw [HJ.out]; go_num, by rw [HD.out]; go_num, HF.out⟩
     case measure => simp [intOf]; omega
   ·obtain rfl : x = 0 := hx0 h1
    obtain ⟨ad', rfl, hcy⟩ := hy1 h2
    clear hx1 hx0 hy1 hy0 hk HGO HZ hgo
    have hkI : (c : Int) + (y : Int) = (k : Int) := by have := HK.out; omega
    have hk9 : k ≤ 2000000000 := by have := HK.out; omega
    have hle : n < n' := by omega
    all_goals
     go_wp2_with (at_builtin; refine wpList_app1 rfl (.tmp 49) (.tmp 53) rfl w.heap.size _ xs rfl (HO.out.alloc _) wr.heap.size (k % 1000000000) rfl (by simp [go_sem]) (by omega) (by have := HXL.out; omega) (by have := HB.out.size; simp; omega) ?_)
     intro v' w' hown' hgrow
     have HO' := hid hown'
     have HG := hid hgrow
     clear hown' hgrow
     have hz := HB.out.size
     obtain ⟨j, d, ys, hj, hd, hf⟩ := fin v' w' HO'.out ((HB.out.alloc (by omega) _).trans ((HO.out.alloc _).below HG.out (Nat.le_refl _) (by simp; omega)))
     have HF := hid hf
     have HJ := hid hj
     have HD := hid hd
     clear hf hj hd fin hz
     go_wp2
     go_roundw
     case rel => exact ⟨j, d, ys, by rw [HJ.out]; go_num, by rw [HD.out]; go_num, HF.out⟩
     case measure => simp [intOf]; omega
   ·obtain rfl : x = 0 := hx0 h1
    obtain rfl : y = 0 := hy0 h2
    have hc1 : 0 < c := by omega
    clear hx1 hx0 hy1 hy0 hk HGO HZ hgo
    obtain rfl : k = c := by have := HK.out; omega
    have hk9 : k ≤ 2000000000 := by have := HK.out; omega
    have hle : n < n' ∨ ¬ n < n' := by omega
    rcases hle with hle | hle
    all_goals
     go_wp2_with (at_builtin; refine wpList_app1 rfl (.tmp 49) (.tmp 53) rfl w.heap.size _ xs rfl (HO.out.alloc _) wr.heap.size (k % 1000000000) rfl (by simp [go_sem]) (by omega) (by have := HXL.out; omega) (by have := HB.out.size; simp; omega) ?_)
     intro v' w' hown' hgrow
     have HO' := hid hown'
     have HG := hid hgrow
     clear hown' hgrow
     have hz := HB.out.size
     obtain ⟨j, d, ys, hj, hd, hf⟩ := fin v' w' HO'.out ((HB.out.alloc (by omega) _).trans ((HO.out.alloc _).below HG.out (Nat.le_refl _) (by simp; omega)))
     have HF := hid hf
     have HJ := hid hj
     have HD := hid hd
     clear hf hj hd fin hz
     go_wp2
     go_roundw
     case rel => exact ⟨j, d, ys, by rw [HJ.out]; go_num, by rw [HD.out]; go_num, HF.out⟩
     case measure => simp [intOf]; omega
  ·have hc1 : c = 0 := by omega
   subst hc1
   have hd : ¬ i < max n n' := by omega
   have hvv : M.val xs = M.val a + M.val b := by
    have h1 := HV.out
    rw [List.drop_eq_nil_of_le (by rw [← HN.out]; omega), List.drop_eq_nil_of_le (by rw [← HN'.out]; omega)] at h1
    simp [M.val] at h1
    exact h1.symm
   have HVV := hid hvv
   clear hvv hgo
   go_wp2_with fail
   all_goals
    refine (rTrim_any _ _ xs HO.out.num HXS.out).mono ?_
    rintro e w2 ⟨⟨v2, rfl, hv2⟩, rfl⟩
    have HV2 := hid hv2
    clear hv2
    go_wp2
    go_ret
    refine ⟨_, rfl, ?_, HB.out⟩
    rw [HSUM.out, ← HVV.out]
    exact HV2.out
theorem rSub_any (w : World) (u v : Value) (l m : List Nat) (hu : Num w w.heap.size u l) (hv : Num w w.heap.size v m) (hlen : Hid (l.length ≤ 100000000)) :
 Calls Tryz.prog 44 #[u, v] w (Gives w (M.limbs (M.nv l - M.nv m))) := by
 have HU := hid hu
 have HV := hid hv
 clear hu hv
 have hcr := M.cmp_range (M.nv l) (M.nv m)
 obtain ⟨z, hz⟩ : ∃ z : Int, z = M.cmp (M.nv l) (M.nv m) := ⟨_, rfl⟩
 rw [← hz] at hcr
 have HZ := hid hz
 clear hz
 go_enter Tryz.func44, Tryz.ntmps44
 go_wp2_with fail
 refine (rNat_any w u l HU.out).mono ?_
 rintro e w' ⟨⟨u', rfl, hu'⟩, rfl⟩
 have HU' := hid hu'
 clear hu'
 go_wp2_with fail
 refine (rNat_any w v m HV.out).mono ?_
 rintro e w' ⟨⟨v', rfl, hv'⟩, rfl⟩
 have HV' := hid hv'
 clear hv'
 go_wp2_with fail
 refine (rCmp_any w u' v' _ _ HU'.out HV'.out).mono ?_
 rw [M.nv_nat, M.nv_nat, ← HZ.out]
 rintro e w' ⟨rfl, kd, rfl⟩
 by_cases hz0 : z ≤ 0
 ·have HLE := hid (show M.nv l ≤ M.nv m by
   rcases Nat.lt_or_ge (M.nv m) (M.nv l) with h | h
   ·have := M.cmp_gt h; rw [← HZ.out] at this; omega
   ·exact h)
  go_wp2
  go_ret
  refine ⟨_, rfl, ?_, below_drewN (Below.refl _ _) _⟩
  rw [show M.nv l - M.nv m = 0 by have := HLE.out; omega, M.limbs_zero]
  exact Num.nil _ _
 ·have HLT := hid (show M.nv m < M.nv l by
   rcases Nat.lt_or_ge (M.nv m) (M.nv l) with h | h
   ·exact h
   ·have := M.cmp_nonpos h; rw [← HZ.out] at this; omega)
  have hbd := below_drewN (Below.refl w.heap.size w) kd
  have hu' := HU'.out.keep hbd (Nat.le_refl _)
  have hv' := HV'.out.keep hbd (Nat.le_refl _)
  have HBD := hid hbd
  obtain ⟨a, ha⟩ : ∃ a, a = M.nat l := ⟨_, rfl⟩
  obtain ⟨b, hb⟩ : ∃ b, b = M.nat m := ⟨_, rfl⟩
  have hia := M.isNat_nat l
  have hib := M.isNat_nat m
  have hva : M.nv l = M.val a := by rw [ha, M.val_nat]
  have hvb : M.nv m = M.val b := by rw [hb, M.val_nat]
  have hla := M.nat_length l
  rw [← ha] at hu' hia hla
  rw [← hb] at hv' hib
  have HVA := hid (And.intro hva hvb)
  have hlab := M.length_le_of_val (M.isNat_iff.1 hia).1 (M.isNat_iff.1 hib).2 (by rw [← hva, ← hvb]; exact Nat.le_of_lt HLT.out)
  obtain ⟨A, n, c, rfl, hn, hc, hm0, hs, hr⟩ := hu'
  obtain ⟨A', n', c', rfl, hn', hc', hm', hs', hr'⟩ := hv'
  have hn9 : n ≤ 100000000 := by have := hlen.out; omega
  have hn9' : n' ≤ n := by omega
  have HR := hid hr
  have HR' := hid hr'
  have HN := hid hn
  have HN' := hid hn'
  have HS := hid (M.small_iff.1 (M.isNat_iff.1 hia).1)
  have HS' := hid (M.small_iff.1 (M.isNat_iff.1 hib).1)
  clear hr hn hs hm0 hr' hn' hs' hm' hc hc' ha hb hva hvb hla hlab hia hib hbd HU HV HU' HV'
  go_wp2
  go_loopw [7, 8, 9] (fun v cr si wr => ∃ (i c : Nat) (xs : List Nat), si = .int .i64 (i : Int) ∧ cr = .int .i64 (c : Int) ∧ c ≤ 1 ∧ i ≤ n ∧ xs.length = i ∧ M.small xs = true ∧ Own w.heap.size wr v xs ∧ Below w.heap.size w wr ∧
   M.val (a.take i) + 1000000000 ^ i * c = M.val (b.take i) + M.val xs) (fun _ _ si _ => n - (intOf si).toNat)
  case atStart => exact ⟨0, 0, [], rfl, rfl, by omega, by omega, rfl, rfl, Own.nil _ _, HBD.out, by simp [M.val]⟩
  case round =>
   obtain ⟨i, c, xs, rfl, rfl, hc9, hi9, hxl, hxs, hown, hbel, hval⟩ := hrel
   have HXL := hid hxl
   have HXS := hid hxs
   have HO := hid hown
   have HB := hid hbel
   have HV := hid hval
   clear hxl hxs hown hbel hval
   by_cases hin : i < n
   ·have hwb := HB.out
    obtain ⟨ad, x, rfl, had, HX, hcell⟩ := (HR.out.keep (w' := wr) ⟨hwb.os, hwb.tape, hwb.output, hwb.size, hwb.block⟩ (Nat.le_refl _)).get (k := i) (by rw [← HN.out]; exact hin)
    clear hwb
    have hx9 := HS.out x (List.mem_of_getElem? HX.out)
    by_cases hin' : i < n'
    ·have hwb := HB.out
     obtain ⟨ad', y, rfl, had', HY, hcell'⟩ := (HR'.out.keep (w' := wr) ⟨hwb.os, hwb.tape, hwb.output, hwb.size, hwb.block⟩ (Nat.le_refl _)).get (k := i) (by rw [← HN'.out]; exact hin')
     clear hwb
     have hy9 := HS'.out y (List.mem_of_getElem? HY.out)
     obtain ⟨d, hd, hdI⟩ : ∃ d : Int, d = (x : Int) - c - y ∧ (x : Int) - (c : Int) - (y : Int) = d := ⟨_, rfl, rfl⟩
     rcases (by omega : d < 0 ∨ 0 ≤ d) with hneg | hneg
     ·obtain ⟨k, hkI, hk9⟩ : ∃ k : Nat, d + 1000000000 = (k : Int) ∧ k < 1000000000 := ⟨(d + 1000000000).toNat, by omega, by omega⟩
      have HK := hid (show x + 1000000000 * 1 = y + c + k by omega)
      clear hd
      go_wp2_with (at_builtin; refine wpList_app1 rfl (.tmp 47) (.tmp 50) rfl w.heap.size _ xs rfl (HO.out.alloc _) wr.heap.size k rfl (by simp [go_sem]) (by omega) (by have := HXL.out; omega) (by have := HB.out.size; simp; omega) ?_)
      intro v' w' hown' hgrow
      have HO' := hid hown'
      have HG := hid hgrow
      clear hown' hgrow
      go_wp2
      go_roundw
      case rel =>
       refine ⟨i + 1, 1, xs ++ [k], by go_num, rfl, by omega, by omega, by rw [List.length_append, HXL.out]; rfl, by rw [M.small_append]; exact ⟨HXS.out, by simp [M.small]; omega⟩, HO'.out, ?_, ?_⟩
       ·have hz := HB.out.size
        exact (HB.out.alloc (by omega) _).trans ((HO.out.alloc _).below HG.out (Nat.le_refl _) (by simp; omega))
       ·rw [M.val_take HX.out, M.val_take HY.out, M.val_snoc, HXL.out, Nat.pow_succ]
        exact M.diff_step HV.out (by have := HK.out; omega)
      case measure => simp [intOf]; all_goals omega
     ·obtain ⟨k, hkI, hk9⟩ : ∃ k : Nat, d = (k : Int) ∧ k < 1000000000 := ⟨d.toNat, by omega, by omega⟩
      have HK := hid (show x + 1000000000 * 0 = y + c + k by omega)
      have hkI2 := hid hkI
      clear hkI
      obtain rfl := hkI2.out
      clear hkI2 hd
      go_wp2_with (at_builtin; refine wpList_app1 rfl (.tmp 47) (.tmp 50) rfl w.heap.size _ xs rfl (HO.out.alloc _) wr.heap.size k rfl (by simp [go_sem]) (by omega) (by have := HXL.out; omega) (by have := HB.out.size; simp; omega) ?_)
      intro v' w' hown' hgrow
      have HO' := hid hown'
      have HG := hid hgrow
      clear hown' hgrow
      go_wp2
      go_roundw
      case rel =>
       refine ⟨i + 1, 0, xs ++ [k], by go_num, rfl, by omega, by omega, by rw [List.length_append, HXL.out]; rfl, by rw [M.small_append]; exact ⟨HXS.out, by simp [M.small]; omega⟩, HO'.out, ?_, ?_⟩
       ·have hz := HB.out.size
        exact (HB.out.alloc (by omega) _).trans ((HO.out.alloc _).below HG.out (Nat.le_refl _) (by simp; omega))
       ·rw [M.val_take HX.out, M.val_take HY.out, M.val_snoc, HXL.out, Nat.pow_succ]
        exact M.diff_step HV.out (by have := HK.out; omega)
      case measure => simp [intOf]; all_goals omega
    ·skip
     have HY := hid (M.val_take_over (l := b) (k := i) (by rw [← HN'.out]; omega))
     obtain ⟨d, hd, hdI⟩ : ∃ d : Int, d = (x : Int) - c ∧ (x : Int) - (c : Int) = d := ⟨_, rfl, rfl⟩
     rcases (by omega : d < 0 ∨ 0 ≤ d) with hneg | hneg
     ·obtain ⟨k, hkI, hk9⟩ : ∃ k : Nat, d + 1000000000 = (k : Int) ∧ k < 1000000000 := ⟨(d + 1000000000).toNat, by omega, by omega⟩
      have HK := hid (show x + 1000000000 * 1 = 0 + c + k by omega)
      clear hd
      go_wp2_with (at_builtin; refine wpList_app1 rfl (.tmp 47) (.tmp 50) rfl w.heap.size _ xs rfl (HO.out.alloc _) wr.heap.size k rfl (by simp [go_sem]) (by omega) (by have := HXL.out; omega) (by have := HB.out.size; simp; omega) ?_)
      intro v' w' hown' hgrow
      have HO' := hid hown'
      have HG := hid hgrow
      clear hown' hgrow
      go_wp2
      go_roundw
      case rel =>
       refine ⟨i + 1, 1, xs ++ [k], by go_num, rfl, by omega, by omega, by rw [List.length_append, HXL.out]; rfl, by rw [M.small_append]; exact ⟨HXS.out, by simp [M.small]; omega⟩, HO'.out, ?_, ?_⟩
       ·have hz := HB.out.size
        exact (HB.out.alloc (by omega) _).trans ((HO.out.alloc _).below HG.out (Nat.le_refl _) (by simp; omega))
       ·rw [M.val_take HX.out, HY.out, M.val_snoc, HXL.out, Nat.pow_succ]
        exact M.diff_step HV.out (by have := HK.out; omega)
      case measure => simp [intOf]; all_goals omega
     ·obtain ⟨k, hkI, hk9⟩ : ∃ k : Nat, d = (k : Int) ∧ k < 1000000000 := ⟨d.toNat, by omega, by omega⟩
      have HK := hid (show x + 1000000000 * 0 = 0 + c + k by omega)
      have hkI2 := hid hkI
      clear hkI
      obtain rfl := hkI2.out
      clear hkI2 hd
      go_wp2_with (at_builtin; refine wpList_app1 rfl (.tmp 47) (.tmp 50) rfl w.heap.size _ xs rfl (HO.out.alloc _) wr.heap.size k rfl (by simp [go_sem]) (by omega) (by have := HXL.out; omega) (by have := HB.out.size; simp; omega) ?_)
      intro v' w' hown' hgrow
      have HO' := hid hown'
      have HG := hid hgrow
      clear hown' hgrow
      go_wp2
      go_roundw
      case rel =>
       refine ⟨i + 1, 0, xs ++ [k], by go_num, rfl, by omega, by omega, by rw [List.length_append, HXL.out]; rfl, by rw [M.small_append]; exact ⟨HXS.out, by simp [M.small]; omega⟩, HO'.out, ?_, ?_⟩
       ·have hz := HB.out.size
        exact (HB.out.alloc (by omega) _).trans ((HO.out.alloc _).below HG.out (Nat.le_refl _) (by simp; omega))
       ·rw [M.val_take HX.out, HY.out, M.val_snoc, HXL.out, Nat.pow_succ]
        exact M.diff_step HV.out (by have := HK.out; omega)
      case measure => simp [intOf]; all_goals omega
   ·have hkn : i = n := by omega
    subst hkn
    have hov : M.val xs = M.val a - M.val b := by
     have h1 := HV.out
     rw [List.take_of_length_le (by rw [← HN.out]; exact Nat.le_refl _), List.take_of_length_le (by rw [← HN'.out]; exact hn9')] at h1
     exact M.diff_end h1 (by have := M.val_lt HXS.out; rwa [HXL.out] at this) hc9 (by rw [← HVA.out.1, ← HVA.out.2]; exact Nat.le_of_lt HLT.out)
    have HOV := hid hov
    clear hov
    go_wp2_with fail
    refine (rTrim_any wr _ xs HO.out.num HXS.out).mono ?_
    rintro e w' ⟨⟨v', rfl, hv'⟩, rfl⟩
    have HV' := hid hv'
    clear hv'
    go_wp2
    go_ret
    refine ⟨_, rfl, ?_, HB.out⟩
    rw [HVA.out.1, HVA.out.2, ← HOV.out]
    exact HV'.out
end Go.Proofs.YtkhmgdfhggejaaaGreatDoor
