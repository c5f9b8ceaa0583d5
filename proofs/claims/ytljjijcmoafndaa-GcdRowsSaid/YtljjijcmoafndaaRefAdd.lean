/-
  Contracts of the reference's sum and difference.
-/
import Derived.Test.YtljjijcmoafndaaRef
namespace Go.Proofs.Ytljjijcmoafndaa
set_option linter.unusedSimpArgs false
set_option linter.unusedVariables false
open Go.RowKit

theorem rAdd_any (w : World) (u v : Value) (l m : List Nat) (hu : Num w w.heap.size u l) (hv : Num w w.heap.size v m) (hlen : Hid (l.length ≤ 100000000)) (hlen' : Hid (m.length ≤ 100000000)) :
    Calls Try.prog 39 #[u, v] w (Gives w (M.limbs (M.nv l + M.nv m))) := by
  have HU := hid hu
  have HV := hid hv
  clear hu hv
  go_enter Try.func39, Try.ntmps39
  go_wp2_with fail
  refine (rNat_any w u l HU.out).mono ?_
  rintro e w' ⟨⟨u', rfl, hu'⟩, rfl⟩
  have HU' := hid hu'
  clear hu'
  go_wp2_with fail
  refine (rNat_any w v m HV.out).mono ?_
  rintro e w' ⟨⟨v', rfl, hv'⟩, rfl⟩
  have hu' := HU'.out
  clear HU HV HU'
  obtain ⟨a, ha⟩ : ∃ a, a = M.nat l := ⟨_, rfl⟩
  obtain ⟨b, hb⟩ : ∃ b, b = M.nat m := ⟨_, rfl⟩
  have hS : M.nv l + M.nv m = M.val a + M.val b := by rw [ha, hb, M.val_nat, M.val_nat]
  have hsa := M.small_nat l
  have hsb := M.small_nat m
  have hla := M.nat_length l
  have hlb := M.nat_length m
  rw [← ha] at hu' hsa hla
  rw [← hb] at hv' hsb hlb
  have HSUM := hid hS
  obtain ⟨A, n, c, rfl, hn, hc, hm0, hs, hr⟩ := hu'
  obtain ⟨A', n', c', rfl, hn', hc', hm', hs', hr'⟩ := hv'
  have hn9 : n ≤ 100000000 := by have := hlen.out; omega
  have hn9' : n' ≤ 100000000 := by have := hlen'.out; omega
  have HR := hid hr
  have HR' := hid hr'
  have HN := hid hn
  have HN' := hid hn'
  have HS := hid (M.small_iff.1 hsa)
  have HS' := hid (M.small_iff.1 hsb)
  clear hr hn hs hm0 hr' hn' hs' hm' hc hc' ha hb hS hsa hsb hla hlb
  go_wp2
  go_loopw [7, 8, 9] (fun v cr si wr => ∃ (i c : Nat) (xs : List Nat), si = .int .i64 (i : Int) ∧ cr = .int .u64 (c : Int) ∧ c ≤ 1 ∧ i ≤ max n n' + 1 ∧ xs.length = i ∧ (max n n' < i → c = 0) ∧ M.small xs = true ∧ Own w.heap.size wr v xs ∧ Below w.heap.size w wr ∧
    M.val a + M.val b = M.val xs + 1000000000 ^ i * (c + (M.val (a.drop i) + M.val (b.drop i)))) (fun _ cr si _ => (max n n' + 1 - (intOf si).toNat) * 10 + (intOf cr).toNat)
  case atStart => exact ⟨0, 0, [], rfl, rfl, by omega, by omega, rfl, fun _ => rfl, rfl, Own.nil _ _, Below.refl _ _, by simp [M.val]⟩
  case round =>
    obtain ⟨i, c, xs, rfl, rfl, hc9, hi9, hxl, hni, hxs, hown, hbel, hval⟩ := hrel
    have HXL := hid hxl
    have HNI := hid hni
    have HXS := hid hxs
    have HO := hid hown
    have HB := hid hbel
    have HV := hid hval
    clear hxl hni hxs hown hbel hval
    by_cases hgo : i < max n n' ∨ 0 < c
    · have hdx : ∃ x, x < 1000000000 ∧ Hid (M.val (a.drop i) = x + 1000000000 * M.val (a.drop (i + 1))) ∧ (i < n → ∃ ad, A = some ad ∧ wr.cell? (ad.add i) = some (.int .u32 (x : Int))) ∧ (¬ i < n → x = 0) := by
        by_cases h : i < n
        · obtain ⟨ad, x, e, _, HX, hcell⟩ := (HR.out.keep HB.out (Nat.le_refl _)).get (k := i) (by rw [← HN.out]; exact h)
          exact ⟨x, HS.out x (List.mem_of_getElem? HX.out), M.val_drop_get HX.out, fun _ => ⟨ad, e, hcell⟩, fun h' => absurd h h'⟩
        · exact ⟨0, by omega, M.val_drop_none (by rw [← HN.out]; omega), fun h' => absurd h' h, fun _ => rfl⟩
      have hdy : ∃ y, y < 1000000000 ∧ Hid (M.val (b.drop i) = y + 1000000000 * M.val (b.drop (i + 1))) ∧ (i < n' → ∃ ad, A' = some ad ∧ wr.cell? (ad.add i) = some (.int .u32 (y : Int))) ∧ (¬ i < n' → y = 0) := by
        by_cases h : i < n'
        · obtain ⟨ad, x, e, _, HX, hcell⟩ := (HR'.out.keep HB.out (Nat.le_refl _)).get (k := i) (by rw [← HN'.out]; exact h)
          exact ⟨x, HS'.out x (List.mem_of_getElem? HX.out), M.val_drop_get HX.out, fun _ => ⟨ad, e, hcell⟩, fun h' => absurd h h'⟩
        · exact ⟨0, by omega, M.val_drop_none (by rw [← HN'.out]; omega), fun h' => absurd h' h, fun _ => rfl⟩
      obtain ⟨x, hx9, HDX, hx1, hx0⟩ := hdx
      obtain ⟨y, hy9, HDY, hy1, hy0⟩ := hdy
      obtain ⟨k, hk⟩ : ∃ k, k = c + x + y := ⟨_, rfl⟩
      have HK := hid hk
      have HGO := hid hgo
      have HZ := hid (show ¬ (i < n ∨ i < n') → x = 0 ∧ y = 0 from fun h => ⟨hx0 (by omega), hy0 (by omega)⟩)
      have fin : ∀ (v' : Value) (w' : World), Hid (Own w.heap.size w' v' (xs ++ [k % 1000000000])) → Hid (Below w.heap.size w w') →
          ∃ (j d : Nat) (ys : List Nat), j = i + 1 ∧ d = k / 1000000000 ∧ d ≤ 1 ∧ j ≤ max n n' + 1 ∧ ys.length = j ∧ (max n n' < j → d = 0) ∧ M.small ys = true ∧ Own w.heap.size w' v' ys ∧ Below w.heap.size w w' ∧
          M.val a + M.val b = M.val ys + 1000000000 ^ j * (d + (M.val (a.drop j) + M.val (b.drop j))) := by
        intro v' w' h1 h2
        refine ⟨i + 1, k / 1000000000, xs ++ [k % 1000000000], rfl, rfl, by omega, ?_, by rw [List.length_append, HXL.out]; rfl, fun h => ?_, by rw [M.small_append]; exact ⟨HXS.out, by simp [M.small]; omega⟩, h1.out, h2.out, ?_⟩
        · have := HGO.out; have := HNI.out; omega
        · have h3 := HZ.out (by have := HGO.out; omega)
          omega
        · rw [M.val_snoc, HXL.out, Nat.pow_succ]
          exact M.rsum_step HV.out HDX.out HDY.out HK.out
      rcases (by omega : i < n ∨ ¬ i < n) with h1 | h1 <;> rcases (by omega : i < n' ∨ ¬ i < n') with h2 | h2
      · obtain ⟨ad, rfl, hcx⟩ := hx1 h1
        obtain ⟨ad', rfl, hcy⟩ := hy1 h2
        clear hx1 hx0 hy1 hy0 hk HGO HZ hgo
        have hkI : (c : Int) + (x : Int) + (y : Int) = (k : Int) := by have := HK.out; omega
        have hk9 : k ≤ 2000000000 := by have := HK.out; omega
        have hle : n < n' ∨ ¬ n < n' := by omega
        rcases hle with hle | hle
        all_goals
          go_wp2_with (at_builtin; refine wpList_app1 rfl (.tmp 49) (.tmp 53) rfl w.heap.size _ xs rfl (HO.out.alloc _) wr.heap.size (k % 1000000000) rfl (by simp [go_sem]) (by omega) (by have := HXL.out; omega) (by have := HB.out.size; simp; omega) ?_)
          intro v' w' hown' hgrow
          have HO' := hid hown'
          have HG := hid hgrow
          clear hown' hgrow
          have hz := HB.out.size
          obtain ⟨j, d, ys, hj, hd, hf⟩ := fin v' w' HO'.out ((HB.out.alloc (by omega) _).trans ((HO.out.alloc _).below HG.out (Nat.le_refl _) (by simp; omega)))
          have HF := hid hf
          have HJ := hid hj
          have HD := hid hd
          clear hf hj hd fin hz
          go_wp2
          go_roundw
          case rel => exact ⟨j, d, ys, by rw [HJ.out]; go_num, by rw [HD.out]; go_num, HF.out⟩
          case measure => simp [intOf]; omega
      · obtain ⟨ad, rfl, hcx⟩ := hx1 h1
        obtain rfl : y = 0 := hy0 h2
        clear hx1 hx0 hy1 hy0 hk HGO HZ hgo
        have hkI : (c : Int) + (x : Int) = (k : Int) := by have := HK.out; omega
        have hk9 : k ≤ 2000000000 := by have := HK.out; omega
        have hle : ¬ n < n' := by omega
        all_goals
          go_wp2_with (at_builtin; refine wpList_app1 rfl (.tmp 49) (.tmp 53) rfl w.heap.size _ xs rfl (HO.out.alloc _) wr.heap.size (k % 1000000000) rfl (by simp [go_sem]) (by omega) (by have := HXL.out; omega) (by have := HB.out.size; simp; omega) ?_)
          intro v' w' hown' hgrow
          have HO' := hid hown'
          have HG := hid hgrow
          clear hown' hgrow
          have hz := HB.out.size
          obtain ⟨j, d, ys, hj, hd, hf⟩ := fin v' w' HO'.out ((HB.out.alloc (by omega) _).trans ((HO.out.alloc _).below HG.out (Nat.le_refl _) (by simp; omega)))
          have HF := hid hf
          have HJ := hid hj
          have HD := hid hd
          clear hf hj hd fin hz
          go_wp2
          go_roundw
          case rel => exact ⟨j, d, ys, by rw [HJ.out]; go_num, by rw [HD.out]; go_num, HF.out⟩
          case measure => simp [intOf]; omega
      · obtain rfl : x = 0 := hx0 h1
        obtain ⟨ad', rfl, hcy⟩ := hy1 h2
        clear hx1 hx0 hy1 hy0 hk HGO HZ hgo
        have hkI : (c : Int) + (y : Int) = (k : Int) := by have := HK.out; omega
        have hk9 : k ≤ 2000000000 := by have := HK.out; omega
        have hle : n < n' := by omega
        all_goals
          go_wp2_with (at_builtin; refine wpList_app1 rfl (.tmp 49) (.tmp 53) rfl w.heap.size _ xs rfl (HO.out.alloc _) wr.heap.size (k % 1000000000) rfl (by simp [go_sem]) (by omega) (by have := HXL.out; omega) (by have := HB.out.size; simp; omega) ?_)
          intro v' w' hown' hgrow
          have HO' := hid hown'
          have HG := hid hgrow
          clear hown' hgrow
          have hz := HB.out.size
          obtain ⟨j, d, ys, hj, hd, hf⟩ := fin v' w' HO'.out ((HB.out.alloc (by omega) _).trans ((HO.out.alloc _).below HG.out (Nat.le_refl _) (by simp; omega)))
          have HF := hid hf
          have HJ := hid hj
          have HD := hid hd
          clear hf hj hd fin hz
          go_wp2
          go_roundw
          case rel => exact ⟨j, d, ys, by rw [HJ.out]; go_num, by rw [HD.out]; go_num, HF.out⟩
          case measure => simp [intOf]; omega
      · obtain rfl : x = 0 := hx0 h1
        obtain rfl : y = 0 := hy0 h2
        have hc1 : 0 < c := by omega
        clear hx1 hx0 hy1 hy0 hk HGO HZ hgo
        obtain rfl : k = c := by have := HK.out; omega
        have hk9 : k ≤ 2000000000 := by have := HK.out; omega
        have hle : n < n' ∨ ¬ n < n' := by omega
        rcases hle with hle | hle
        all_goals
          go_wp2_with (at_builtin; refine wpList_app1 rfl (.tmp 49) (.tmp 53) rfl w.heap.size _ xs rfl (HO.out.alloc _) wr.heap.size (k % 1000000000) rfl (by simp [go_sem]) (by omega) (by have := HXL.out; omega) (by have := HB.out.size; simp; omega) ?_)
          intro v' w' hown' hgrow
          have HO' := hid hown'
          have HG := hid hgrow
          clear hown' hgrow
          have hz := HB.out.size
          obtain ⟨j, d, ys, hj, hd, hf⟩ := fin v' w' HO'.out ((HB.out.alloc (by omega) _).trans ((HO.out.alloc _).below HG.out (Nat.le_refl _) (by simp; omega)))
          have HF := hid hf
          have HJ := hid hj
          have HD := hid hd
          clear hf hj hd fin hz
          go_wp2
          go_roundw
          case rel => exact ⟨j, d, ys, by rw [HJ.out]; go_num, by rw [HD.out]; go_num, HF.out⟩
          case measure => simp [intOf]; omega
    · have hc1 : c = 0 := by omega
      subst hc1
      have hd : ¬ i < max n n' := by omega
      have hvv : M.val xs = M.val a + M.val b := by
        have h1 := HV.out
        rw [List.drop_eq_nil_of_le (by rw [← HN.out]; omega), List.drop_eq_nil_of_le (by rw [← HN'.out]; omega)] at h1
        simp [M.val] at h1
        exact h1.symm
      have HVV := hid hvv
      clear hvv hgo
      go_wp2_with fail
      all_goals
        refine (rTrim_any _ _ xs HO.out.num HXS.out).mono ?_
        rintro e w2 ⟨⟨v2, rfl, hv2⟩, rfl⟩
        have HV2 := hid hv2
        clear hv2
        go_wp2
        go_ret
        refine ⟨_, rfl, ?_, HB.out⟩
        rw [HSUM.out, ← HVV.out]
        exact HV2.out
end Go.Proofs.Ytljjijcmoafndaa
