/-
  Contracts: which of two rows is greater.
-/
import Derived.Test.YtljjijcmoafndaaOf
namespace Go.Proofs.Ytljjijcmoafndaa
set_option linter.unusedSimpArgs false
set_option linter.unusedVariables false
open Go.RowKit

theorem quiet_add_left {P : Program} {f : FuncId} {args : Array Value} {w : World} {a n : Nat} {v : Value}
    (h : Calls P f args (w.drewN (a + n)) fun e w' => e = .returned v ∧ w.drewN (a + n) = w') :
    Calls P f args (w.drewN (a + n)) fun e w'' => e = .returned v ∧ ∃ m, w'' = w.drewN (a + m) :=
  h.mono fun _ _ ⟨he, hm⟩ => ⟨he, n, hm.symm⟩
theorem drew3 (w : World) (p q r : Nat) : ∃ k, ((w.drewN p).drewN q).drewN r = w.drewN k := ⟨p + q + r, by rw [World.drewN_drewN, World.drewN_drewN, Nat.add_assoc]⟩
theorem isNaN_u32 (a : Int) (w : World) : Calls Try.prog 92 #[.int .u32 a] w fun e w' => e = .returned (.bool false) ∧ w = w' := by
  go_enter Try.func92, Try.ntmps92
  go_wp2
  go_ret
  exact ⟨ret_bool (by simp), rfl⟩
theorem isNaN_int (a : Int) (w : World) : Calls Try.prog 91 #[.int .i64 a] w fun e w' => e = .returned (.bool false) ∧ w = w' := by
  go_enter Try.func91, Try.ntmps91
  go_wp2
  go_ret
  exact ⟨ret_bool (by simp), rfl⟩
theorem cmp_u32 (a b : Nat) (w : World) : Calls Try.prog 86 #[.int .u32 (a : Int), .int .u32 (b : Int)] w fun e w' => e = .returned (.int .i64 (M.cmp a b)) ∧ w = w' := by
  go_enter Try.func86, Try.ntmps86
  go_wp2_with (go_at_call 92; refine (isNaN_u32 _ _).mono ?_; rintro e w' ⟨rfl, rfl⟩)
  · go_ret
    exact ⟨ret_int (M.cmp_lt (by assumption)).symm, rfl⟩
  · go_ret
    exact ⟨ret_int (M.cmp_gt (by assumption)).symm, rfl⟩
  · go_ret
    exact ⟨ret_int (M.cmp_zero.2 (by omega)).symm, rfl⟩
theorem cmp_int (a b : Nat) (w : World) : Calls Try.prog 85 #[.int .i64 (a : Int), .int .i64 (b : Int)] w fun e w' => e = .returned (.int .i64 (M.cmp a b)) ∧ w = w' := by
  go_enter Try.func85, Try.ntmps85
  go_wp2_with (go_at_call 91; refine (isNaN_int _ _).mono ?_; rintro e w' ⟨rfl, rfl⟩)
  · go_ret
    exact ⟨ret_int (M.cmp_lt (by assumption)).symm, rfl⟩
  · go_ret
    exact ⟨ret_int (M.cmp_gt (by assumption)).symm, rfl⟩
  · go_ret
    exact ⟨ret_int (M.cmp_zero.2 (by omega)).symm, rfl⟩

theorem compare_any (w : World) (u v : Value) (l m : List Nat) {C D : Nat} (hu : Num w C u l) (hv : Num w D v m) (hl : Hid (M.isNat l = true)) (hm : Hid (M.isNat m = true)) :
    Calls Try.prog 78 #[u, v] w fun e w' => e = .returned (.int .i64 (M.cmp (M.val l) (M.val m))) ∧ ∃ k, w' = w.drewN k := by
  obtain ⟨A, n, c, rfl, hn, hc, hm0, hs, hr⟩ := hu
  obtain ⟨A', n', c', rfl, hn', hc', hm', hs', hr'⟩ := hv
  have hb : n ≤ 9223372036854775807 := by unfold maxLen at hm0; omega
  have hb' : n' ≤ 9223372036854775807 := by unfold maxLen at hm'; omega
  have HR := hid hr
  have HR' := hid hr'
  have HN := hid hn
  have HN' := hid hn'
  clear hr hn hs hm0 hr' hn' hs' hm' hc hc'
  by_cases hnn : n = n'
  · subst hnn
    go_enter Try.func78, Try.ntmps78
    go_wp2
    go_loopw [5] (fun i wr => ∃ (k p : Nat) (z : Int), k ≤ n ∧ z = (k : Int) - 1 ∧ i = .int .i64 z ∧ wr = w.drewN p ∧ l.drop k = m.drop k) (fun i _ => (intOf i + 1).toNat)
    case atStart => exact ⟨n, 0, _, Nat.le_refl _, rfl, rfl, rfl, by rw [List.drop_eq_nil_of_le (by rw [← HN.out]; exact Nat.le_refl _), List.drop_eq_nil_of_le (by rw [← HN'.out]; exact Nat.le_refl _)]⟩
    case round =>
      obtain ⟨k, p, z, hk, hz, rfl, rfl, he⟩ := hrel
      have HE := hid he
      clear he
      rcases k with _ | k
      · obtain rfl : z = -1 := by omega
        clear hz
        go_wp2
        go_ret
        refine ⟨ret_int (M.cmp_zero.2 ?_).symm, p, rfl⟩
        have := HE.out
        simp only [List.drop_zero] at this
        rw [this]
      · obtain rfl : z = (k : Int) := by omega
        clear hz
        have hlt : k < n := by omega
        obtain ⟨ad, x, rfl, _, HX, hcell⟩ := HR.out.get (k := k) (by rw [← HN.out]; exact hlt)
        obtain ⟨ad', x', rfl, _, HX', hcell'⟩ := HR'.out.get (k := k) (by rw [← HN'.out]; exact hlt)
        by_cases hx : x = x'
        · subst hx
          go_wp2
          go_quiet (fail)
          go_wp2
          go_roundw
          case rel => exact ⟨k, p + nq, _, by omega, rfl, rfl, rfl, M.drop_same HX.out HX'.out HE.out⟩
          case measure => simp [intOf]; all_goals omega
        · have hx' := hid hx
          have hne : ((x : Int) != (x' : Int)) = true := by simpa using (by omega : ¬ (x : Int) = x')
          clear hx
          go_wp2
          go_quiet (fail)
          go_wp2
          go_quiet ((go_at_call 86; exact quiet_add_left (cmp_u32 _ _ _)))
          go_wp2
          go_ret
          refine ⟨ret_int (M.cmp_at (M.isNat_iff.1 hl.out).1 (M.isNat_iff.1 hm.out).1 HX.out HX'.out HE.out hx'.out), drew3 _ _ _ _⟩
  · go_enter Try.func78, Try.ntmps78
    go_wp2_with (go_at_call 85; refine (cmp_int _ _ _).mono ?_; rintro e w' ⟨rfl, rfl⟩)
    all_goals go_ret
    all_goals exact ⟨ret_int (by have h := M.cmp_len hl.out hm.out; rw [← HN.out, ← HN'.out] at h; exact h hnn), 0, rfl⟩

/-- The face: of any two rows. -/
theorem natCmp_any (w : World) (u v : Value) (l m : List Nat) {C D : Nat} (hu : Num w C u l) (hv : Num w D v m) :
    Calls Try.prog 74 #[u, v] w fun e w' => e = .returned (.int .i64 (M.cmp (M.nv l) (M.nv m))) ∧ Below w.heap.size w w' := by
  have HU := hid hu
  have HV := hid hv
  clear hu hv
  go_enter Try.func74, Try.ntmps74
  go_wp2_with fail
  refine (natural_any w u l HU.out).mono ?_
  rintro e w' ⟨⟨u', rfl, hu'⟩, rfl⟩
  have HU' := hid hu'
  clear hu'
  go_wp2_with fail
  refine (natural_any w v m HV.out).mono ?_
  rintro e w' ⟨⟨v', rfl, hv'⟩, rfl⟩
  have HV' := hid hv'
  clear hv'
  go_wp2_with fail
  refine (compare_any w u' v' _ _ HU'.out HV'.out (M.isNat_nat l) (M.isNat_nat m)).mono ?_
  rintro e w' ⟨rfl, k, rfl⟩
  go_wp2
  go_ret
  exact ⟨ret_int (by rw [M.val_nat, M.val_nat]), below_drewN (Below.refl _ _) _⟩

end Go.Proofs.Ytljjijcmoafndaa
