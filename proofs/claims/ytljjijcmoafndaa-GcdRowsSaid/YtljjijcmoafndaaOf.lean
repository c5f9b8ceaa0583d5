/-
  Contracts: a number's limbs; noughts behind a row taken away; two rows that are the same.
-/
import Derived.Test.YtljjijcmoafndaaLeaf
namespace Go.Proofs.Ytljjijcmoafndaa
set_option linter.unusedSimpArgs false
set_option linter.unusedVariables false
open Go.RowKit

theorem limbs_len3 {n : Nat} (h : n ≤ 18446744073709551615) : (M.limbs n).length ≤ 3 := M.limbs_length_le (by omega)
theorem cast_mod (q : Nat) : ((q : Int) % 1000000000) = ((q % 1000000000 : Nat) : Int) := by omega

theorem of_any (n : Nat) (hn : (n : Int) ≤ 18446744073709551615) (w : World) :
    Calls Try.prog 58 #[.int .u64 (n : Int)] w (Gives w (M.limbs n)) := by
  have HL := hid (limbs_len3 (n := n) (by omega))
  have hmk : ∀ W : World, (Instr.makeSlice 22 (.int .i64 0) (.int .i64 3)).run Try.prog W = .ok (.slice (some ⟨W.heap.size, 0, none⟩) 0 3) (W.alloc (.cells (zeros 3) 56)) :=
    make_u32 _ _ 0 3 0 3 rfl rfl (by omega) (by omega)
  go_enter Try.func58, Try.ntmps58
  go_wp2
  go_loopw [0, 3] (fun s0 v wr => ∃ (q : Nat) (l : List Nat), s0 = .int .u64 (q : Int) ∧ (q : Int) ≤ 18446744073709551615 ∧ M.limbs n = l ++ M.limbs q ∧ Own w.heap.size wr v l ∧ Below w.heap.size w wr) (fun s0 _ _ => (intOf s0).toNat)
  case atStart => exact ⟨n, [], rfl, hn, rfl, Own.made w _ 3 _ (Nat.le_refl _) (by decide) (zeros_size 3), (Below.refl _ _).alloc (Nat.le_refl _) _⟩
  case round =>
    obtain ⟨q, l, rfl, hq, he, hown, hbel⟩ := hrel
    have HE := hid he
    clear he
    have HO := hid hown
    have HB := hid hbel
    clear hown hbel
    by_cases h0 : 0 < q
    · go_wp2_with (at_builtin; go_loud (refine wpList_app1 rfl (.tmp 9) (.tmp 13) rfl w.heap.size _ l rfl (HO.out.alloc _) wr.heap.size (q % 1000000000) rfl ?c1 ?c3 ?c4 ?c5 ?_))
      case c1 => simp [go_sem]
      case c3 => omega
      case c4 =>
        have h1 := HL.out
        rw [HE.out, List.length_append, M.limbs_pos (by omega), List.length_cons] at h1
        omega
      case c5 => have := HB.out.size; simp; omega
      intro v' w1 hown' hgrow
      have HO' := hid hown'
      have HG := hid hgrow
      clear hown' hgrow
      go_wp2
      go_roundw
      case rel =>
        refine ⟨q / 1000000000, l ++ [q % 1000000000], by go_num, by omega, ?_, HO'.out, ?_⟩
        · rw [HE.out, M.limbs_pos (by omega)]; simp
        · have hz := HB.out.size
          exact (HB.out.alloc (by omega) _).trans ((HO.out.alloc _).below HG.out (Nat.le_refl _) (by simp; omega))
      case measure => simp [intOf]; all_goals omega
    · have : q = 0 := by omega
      subst this
      go_wp2
      go_ret
      refine ⟨_, rfl, ?_, HB.out⟩
      have := HO.out.num
      rw [HE.out, M.limbs_zero, List.append_nil]
      exact this

theorem natOf_any (n : Nat) (hn : (n : Int) ≤ 18446744073709551615) (w : World) :
    Calls Try.prog 43 #[.int .u64 (n : Int)] w (Gives w (M.limbs n)) := by
  have HL := hid (limbs_len3 (n := n) (by omega))
  go_enter Try.func43, Try.ntmps43
  go_wp2
  go_loopw [0, 3] (fun s0 v wr => ∃ (q : Nat) (l : List Nat), s0 = .int .u64 (q : Int) ∧ (q : Int) ≤ 18446744073709551615 ∧ M.limbs n = l ++ M.limbs q ∧ Own w.heap.size wr v l ∧ Below w.heap.size w wr) (fun s0 _ _ => (intOf s0).toNat)
  case atStart => exact ⟨n, [], rfl, hn, rfl, Own.nil _ _, Below.refl _ _⟩
  case round =>
    obtain ⟨q, l, rfl, hq, he, hown, hbel⟩ := hrel
    have HE := hid he
    clear he
    have HO := hid hown
    have HB := hid hbel
    clear hown hbel
    by_cases h0 : 0 < q
    · go_wp2_with (at_builtin; refine wpList_app1 rfl (.tmp 6) (.tmp 10) rfl w.heap.size _ l rfl (HO.out.alloc _) wr.heap.size (q % 1000000000) rfl ?c1 ?c3 ?c4 ?c5 ?_)
      case c1 => simp [go_sem]
      case c3 => omega
      case c4 =>
        have h1 := HL.out
        rw [HE.out, List.length_append, M.limbs_pos (by omega), List.length_cons] at h1
        omega
      case c5 => have := HB.out.size; simp; omega
      intro v' w' hown' hgrow
      have HO' := hid hown'
      have HG := hid hgrow
      clear hown' hgrow
      go_wp2
      go_roundw
      case rel =>
        refine ⟨q / 1000000000, l ++ [q % 1000000000], by go_num, by omega, ?_, HO'.out, ?_⟩
        · rw [HE.out, M.limbs_pos (by omega)]; simp
        · have hz := HB.out.size
          exact (HB.out.alloc (by omega) _).trans ((HO.out.alloc _).below HG.out (Nat.le_refl _) (by simp; omega))
      case measure => simp [intOf]; all_goals omega
    · have : q = 0 := by omega
      subst this
      go_wp2
      go_ret
      refine ⟨_, rfl, ?_, HB.out⟩
      have := HO.out.num
      rw [HE.out, M.limbs_zero, List.append_nil]
      exact this

theorem trim_post {w : World} {C : Nat} {A : Option Addr} {k c : Nat} {L : List Nat} (H : Num w C (.slice A k c) L) :
    Ending.returned (.slice A k c) = .returned (.slice A L.length c) ∧ Num w C (.slice A L.length c) L := by
  have h := H
  obtain ⟨A2, n2, c2, e, hn, _⟩ := h
  injection e with e1 e2 e3
  rw [← hn, ← e2]
  exact ⟨rfl, H⟩
theorem trimmed_eq (w : World) (A : Option Addr) (n c : Nat) (l : List Nat) {C : Nat} (hv : Num w C (.slice A n c) l) (hsm : Hid (M.small l = true)) :
    Calls Try.prog 87 #[.slice A n c] w fun e w' => (e = .returned (.slice A (M.limbs (M.val l)).length c) ∧ Num w C (.slice A (M.limbs (M.val l)).length c) (M.limbs (M.val l))) ∧ w = w' := by
  obtain ⟨A2, n2, c2, he, hn, hc, hm, hs, hr⟩ := hv
  injection he with he1 he2 he3
  subst he1 he2 he3
  have hb : n ≤ 9223372036854775807 := by unfold maxLen at hm; omega
  have HR := hid hr
  have HN := hid hn
  have HS := hid hs
  have HM := hid hm
  clear hr hn hs hm
  go_enter Try.func87, Try.ntmps87
  go_wp2
  go_loop [0] (fun s => ∃ k : Nat, k ≤ n ∧ s = .slice A k c ∧ M.val (l.take k) = M.val l) (fun s => match s with | .slice _ k _ => k | _ => 0)
  case atStart => exact ⟨n, Nat.le_refl _, rfl, by rw [HN.out, List.take_length]⟩
  case round =>
    obtain ⟨k, hk, rfl, hval⟩ := hrel
    have HV := hid hval
    clear hval
    have hend : (∀ h : k - 1 < l.length, 0 < k → l[k - 1] ≠ 0) → Hid (Num w C (.slice A k c) (M.limbs (M.val l))) := fun hz => by
      have hkl : k ≤ l.length := by rw [← HN.out]; exact hk
      have e := M.take_done hsm.out hkl HV.out hz
      rw [← e]
      exact ⟨A, k, c, rfl, by rw [List.length_take]; omega, by omega, HM.out, fun x hx => HS.out x (List.mem_of_mem_take hx), HR.out.take k⟩
    by_cases h0 : k = 0
    · subst h0
      have H := hend (fun _ h => absurd h (by omega))
      clear hend
      go_wp2
      go_ret
      exact ⟨trim_post H.out, rfl⟩
    · have h1 : 1 ≤ k := by omega
      obtain ⟨ad, x, rfl, _, HX, hcell⟩ := HR.out.get (k := k - 1) (by rw [← HN.out]; omega)
      by_cases hx : x = 0
      · subst hx
        clear hend
        go_wp2
        go_round
        case rel =>
          refine ⟨k - 1, by omega, rfl, ?_⟩
          have hlt : k - 1 < l.length := by rw [← HN.out]; omega
          have := M.take_nought hlt (by have := HX.out; rw [List.getElem?_eq_getElem hlt] at this; injection this)
          rw [this, show k - 1 + 1 = k by omega]; exact HV.out
        case measure => simp; omega
      · have hx' : ((x : Int) == 0) = false := by simpa using hx
        have H := hend (fun h _ => by have := HX.out; rw [List.getElem?_eq_getElem h] at this; injection this with this; rw [this]; exact hx)
        clear hend
        go_wp2
        go_ret
        exact ⟨trim_post H.out, rfl⟩

theorem trimmed_any (w : World) (v : Value) (l : List Nat) {C : Nat} (hv : Num w C v l) (hsm : Hid (M.small l = true)) :
    Calls Try.prog 87 #[v] w fun e w' => (∃ v', e = .returned v' ∧ Num w C v' (M.limbs (M.val l))) ∧ w = w' := by
  obtain ⟨A, n, c, rfl⟩ := hv.slice
  exact (trimmed_eq w A n c l hv hsm).mono fun _ _ ⟨⟨he, hn⟩, hw⟩ => ⟨⟨_, he, hn⟩, hw⟩

theorem cast_ne {a b : Nat} (h : a ≠ b) : ((a : Int) == (b : Int)) = false := by simp; omega
theorem same_any (w : World) (u v : Value) (l m : List Nat) {C D : Nat} (hu : Num w C u l) (hv : Num w D v m) :
    Calls Try.prog 27 #[u, v] w fun e w' => e = .returned (.bool (decide (l = m))) ∧ ∃ k, w' = w.drewN k := by
  obtain ⟨A, n, c, rfl, hn, hc, hm, hs, hr⟩ := hu
  obtain ⟨A', n', c', rfl, hn', hc', hm', hs', hr'⟩ := hv
  have hb : n ≤ 9223372036854775807 := by unfold maxLen at hm; omega
  have HR := hid hr
  have HR' := hid hr'
  have HN := hid hn
  have HN' := hid hn'
  clear hr hn hs hm hr' hn' hs' hm' hc hc'
  by_cases hnn : n = n'
  · subst hnn
    go_enter Try.func27, Try.ntmps27
    go_wp2
    go_loopw [5] (fun i wr => ∃ k p : Nat, k ≤ n ∧ i = .int .i64 k ∧ wr = w.drewN p ∧ l.take k = m.take k) (fun i _ => n - (intOf i).toNat)
    case atStart => exact ⟨0, 0, Nat.zero_le _, rfl, rfl, rfl⟩
    case round =>
      obtain ⟨k, p, hk, rfl, rfl, he⟩ := hrel
      have HE := hid he
      clear he
      by_cases hlt : k < n
      · obtain ⟨ad, x, rfl, _, HX, hcell⟩ := HR.out.get (k := k) (by rw [← HN.out]; exact hlt)
        obtain ⟨ad', x', rfl, _, HX', hcell'⟩ := HR'.out.get (k := k) (by rw [← HN'.out]; exact hlt)
        by_cases hx : x = x'
        · subst hx
          go_wp2
          go_quiet (fail)
          go_wp2
          go_roundw
          case rel => exact ⟨k + 1, p + nq, by omega, by go_num, rfl, by rw [List.take_add_one, List.take_add_one, HE.out, HX.out, HX'.out]⟩
          case measure => simp [intOf]; all_goals omega
        · have hx' := hid hx
          have hne : ((x : Int) != (x' : Int)) = true := by simpa using (by omega : ¬ (x : Int) = x')
          clear hx
          go_wp2
          go_quiet (fail)
          go_wp2
          go_ret
          refine ⟨ret_bool ?_, p + nq, World.drewN_drewN _ _ _⟩
          have : l ≠ m := by
            rintro rfl
            have := HX.out
            rw [HX'.out] at this
            injection this with this
            exact hx'.out this.symm
          simp [this]
      · have hkn : k = n := by omega
        subst hkn
        go_wp2
        go_ret
        refine ⟨ret_bool ?_, p, rfl⟩
        have := HE.out
        rw [List.take_of_length_le (by rw [← HN.out]; omega), List.take_of_length_le (by rw [← HN'.out]; omega)] at this
        simp [this]
  · go_enter Try.func27, Try.ntmps27
    go_wp2
    go_ret
    refine ⟨ret_bool ?_, 0, rfl⟩
    have : l ≠ m := by rintro rfl; exact hnn (HN.out.trans HN'.out.symm)
    simp [this]
end Go.Proofs.Ytljjijcmoafndaa
