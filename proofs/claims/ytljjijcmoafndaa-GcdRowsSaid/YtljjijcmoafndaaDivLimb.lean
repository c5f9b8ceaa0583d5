/-
  Contract: a natural by one limb.
-/
import Derived.Test.YtljjijcmoafndaaMul
namespace Go.Proofs.Ytljjijcmoafndaa
set_option linter.unusedSimpArgs false
set_option linter.unusedVariables false
open Go.RowKit

def Gives2 (w : World) (l m : List Nat) (e : Ending) (w' : World) : Prop := ∃ u v, e = .returned (.tuple #[u, v]) ∧ Num w' w'.heap.size u l ∧ Num w' w'.heap.size v m ∧ Below w.heap.size w w'

theorem byLimb_any (w : World) (u : Value) (l : List Nat) (b : Nat) (hu : Num w w.heap.size u l) (hl : Hid (M.small l = true)) (hlen : Hid (l.length ≤ 100000000)) (hb0 : 0 < b) (hb9 : b < 1000000000) :
    Calls Try.prog 79 #[u, .int .u32 (b : Int)] w (Gives2 w (M.limbs (M.val l / b)) (M.limbs (M.val l % b))) := by
  obtain ⟨A, n, c, rfl, hn, hc, hm0, hs, hr⟩ := hu
  have hb : n ≤ 100000000 := by rw [hn]; exact hlen.out
  have HR := hid hr
  have HN := hid hn
  have HS := hid (M.small_iff.1 hl.out)
  clear hr hn hs hm0 hc
  have hmk : ∀ W : World, (Instr.makeSlice 22 (.int .i64 (n : Int)) (.int .i64 (n : Int))).run Try.prog W = .ok (.slice (some ⟨W.heap.size, 0, none⟩) n n) (W.alloc (.cells (zeros n) 56)) :=
    make_u32 _ _ _ _ n n rfl rfl (Nat.le_refl _) (by omega)
  go_enter Try.func79, Try.ntmps79
  go_wp2
  clear hmk
  go_loopw [6, 7] (fun sr i wr => ∃ (k rest : Nat) (z : Int) (o : List Nat), k ≤ n ∧ z = (k : Int) - 1 ∧ i = .int .i64 z ∧ sr = .int .u64 (rest : Int) ∧ rest < b ∧ o.length = n ∧ Blk wr w.heap.size o ∧ Below w.heap.size w wr ∧ M.small o = true ∧
    M.val (o.drop k) * b + rest = M.val (l.drop k)) (fun _ i _ => (intOf i + 1).toNat)
  case atStart => exact ⟨n, 0, _, List.replicate n 0, Nat.le_refl _, rfl, rfl, rfl, hb0, by simp, Blk.made _ _, (Below.refl _ _).alloc (Nat.le_refl _) _, M.small_replicate _, by rw [List.drop_eq_nil_of_le (by simp), List.drop_eq_nil_of_le (by rw [← HN.out]; exact Nat.le_refl _)]; simp [M.val]⟩
  case round =>
    obtain ⟨k, rest, z, o, hk, hz, rfl, rfl, hrb, ho, hblk, hbel, hsm, hval⟩ := hrel
    have HO := hid ho
    have HBL := hid hblk
    have HB := hid hbel
    have HSM := hid hsm
    have HV := hid hval
    clear ho hblk hbel hsm hval
    rcases k with _ | k
    · obtain rfl : z = -1 := by omega
      clear hz
      have hov : M.val o = M.val l / b ∧ rest = M.val l % b := by
        have h1 := HV.out
        simp only [List.drop_zero] at h1
        exact M.div_mod_of h1 hrb
      have HNUM := hid (HBL.out.num (fun x hx => by have := M.small_iff.1 HSM.out x hx; omega) (by rw [HO.out]; unfold maxLen; omega) HO.out.symm)
      have HOV := hid hov
      clear hov
      go_wp2_with fail
      refine (trimmed_any wr _ o HNUM.out HSM.out).mono ?_
      rintro e w' ⟨⟨v', rfl, hv'⟩, rfl⟩
      have HV' := hid hv'
      clear hv'
      go_wp2_with fail
      refine (of_any rest (by omega) wr).mono ?_
      rintro e w' ⟨v2, rfl, hv2, hb2⟩
      have HV2 := hid hv2
      have HB2 := hid hb2
      clear hv2 hb2
      go_wp2
      go_ret2
      refine ⟨_, _, rfl, ?_, ?_, HB.out.trans (HB2.out.mono HB.out.size)⟩
      · rw [← HOV.out.1]; exact HV'.out.keep HB2.out HB2.out.size
      · rw [← HOV.out.2]; exact HV2.out
    · obtain rfl : z = (k : Int) := by omega
      clear hz
      have hlt : k < n := by omega
      obtain ⟨ad, x, rfl, had, HX, hcell⟩ := (HR.out.keep HB.out (Nat.le_refl _)).get (k := k) (by rw [← HN.out]; exact hlt)
      have hx9 := HS.out x (List.mem_of_getElem? HX.out)
      have hko : k < o.length := by rw [HO.out]; exact hlt
      obtain ⟨z, hz⟩ : ∃ z, o[k]? = some z := ⟨_, List.getElem?_eq_getElem hko⟩
      have HKO := hid hko
      have hoc := HBL.out.cell hz
      have hof := HBL.out.frozen k
      clear hz hko
      obtain ⟨s, hs⟩ : ∃ s, s = rest * 1000000000 + x := ⟨_, rfl⟩
      obtain ⟨q, hq⟩ : ∃ q, q = s / b := ⟨_, rfl⟩
      obtain ⟨r, hr⟩ : ∃ r, r = s % b := ⟨_, rfl⟩
      have hs9 : s < b * 1000000000 := by omega
      have hq9 : q < 1000000000 := by rw [hq]; exact (Nat.div_lt_iff_lt_mul hb0).2 (by rw [Nat.mul_comm]; exact hs9)
      have hr9 : r < b := by rw [hr]; exact Nat.mod_lt _ hb0
      have hsI : (rest : Int) * 1000000000 + (x : Int) = (s : Int) := by omega
      have hqI : (s : Int) / (b : Int) = (q : Int) := by rw [hq]; simp
      have hrI : (s : Int) % (b : Int) = (r : Int) := by rw [hr]; simp
      have HSS := hid hs
      have HQ := hid hq
      have HRR := hid hr
      clear hs hq hr
      go_wp2
      go_roundw
      case rel =>
        refine ⟨k, r, (k : Int) - 1, o.set k q, by omega, rfl, rfl, by rw [hrI], hr9, by rw [List.length_set]; exact HO.out, HBL.out.put _ rfl, HB.out.setCell (Nat.le_refl _) _, M.small_set' HSM.out hq9, ?_⟩
        rw [M.drop_set HKO.out, M.drop_at HX.out]
        exact M.div_step HV.out HSS.out HQ.out HRR.out
      case measure => simp [intOf]; all_goals omega

/-- 'append(nil, a...)': a row of the call's own that reads as a. -/
theorem wpList_copy {w : World} {ops : Array Oper} {rest : List Oper} {o : Oper} {a : Act} {Q : Exit → Act → World → Prop} (hgd : o.guard = none) (x : Operand)
    (ho : o.op = .call { callee := .builtin .append, args := #[.const (.slice none 0 0), x], argTypes := #[22, 22] })
    (v : Value) (l : List Nat) (hx : a.eval x = v) {C : Nat} (hv : Num w C v l) (hlen : l.length ≤ 1000000000)
    (h : ∀ v' w', Num w' w'.heap.size v' l → Below w.heap.size w w' → wpList Try.prog ops Q rest (a.put o.dst v') w') : wpList Try.prog ops Q (o :: rest) a w := by
  obtain ⟨i0, hi, hz0, hz1, hz2⟩ := info_parts info_u32
  obtain ⟨A, n, c, rfl, hn, hc, hm, hs, hr⟩ := hv
  rcases A with _ | ad
  · have hl : l = [] := by
      rcases l with _ | ⟨y, r⟩
      · rfl
      · obtain ⟨ad, e, _⟩ := hr (by simp)
        cases e
    subst hl
    have hn0 : n = 0 := hn
    subst hn0
    have hrun : (Builtin.append_ #[22, 22] o.type #[.slice none 0 0, .slice none 0 c]).run Try.prog w = .ok (.slice none 0 0) w := by
      simp [Builtin.append_, run_underlying Try.underlying22, sizeOf, typeInfo, hi, Builtin.lenOf, Builtin.firstCells]
    refine wpList_plain hgd fun K hK => ?_
    unfold Oper.wp execOp
    have he : a.eval (.const (.slice none 0 0)) = .slice none 0 0 := rfl
    simp only [ho, resolve, invoke, builtin, Sem.run_bind, Sem.run_pure, Result.andThen_ok, List.map_toArray, List.map_cons, List.map_nil, he, hx, hrun]
    exact hK _ _ (h _ _ (Num.nil _ _) (Below.refl _ _))
  · refine wpList_append_own w hgd (.const (.slice none 0 0)) x 22 ho w.heap.size 56 i0 (.int .u32 0) 1 4 Try.underlying22 hi hz0 hz1 hz2 rfl (by decide) (.slice none 0 0) 0 [] rfl (World.ownsRow_nil _ _ _ _) ad n c (l.map fun x : Nat => Value.int .u32 (x : Int)) hx (by simp [hn]) ?_ ?_ (by unfold maxLen; omega) (by omega) (Nat.le_refl _) ?_
    · intro j u hj
      rw [List.getElem?_map] at hj
      obtain ⟨y, hy, rfl⟩ := Option.map_eq_some_iff.1 hj
      obtain ⟨ad', e, _, hcell⟩ := hr (by rintro rfl; simp at hy)
      injection e with e
      subst e
      exact hcell j y hy
    · intro u hu
      obtain ⟨y, _, rfl⟩ := List.mem_map.1 hu
      rfl
    · intro v' w' h1 h2 _
      refine h v' w' (Own.num (base := w.heap.size) ⟨?_, hs⟩) ((Below.refl _ _).grown h2 (Nat.le_refl _) (fun k hk => by simp [Value.ownBlock] at hk))
      rw [Nat.zero_add, hn] at h1
      simpa using h1

theorem div_of (w : World) (u v : Value) (l m : List Nat) (hu : Num w w.heap.size u l) (hv : Num w w.heap.size v m) (hlen : Hid (l.length ≤ 100000000))
    (hrow : Hid (2 ≤ (M.nat m).length → M.nv m ≤ M.nv l → ∀ (W : World) (u v : Value), Num W W.heap.size u (M.nat l) → Num W W.heap.size v (M.nat m) →
      Calls Try.prog 80 #[u, v] W (Gives2 W (M.limbs (M.nv l / M.nv m)) (M.limbs (M.nv l % M.nv m))))) :
    Calls Try.prog 66 #[u, v] w (Gives2 w (M.limbs (M.nv l / M.nv m)) (M.limbs (M.nv l % M.nv m))) := by
  have HU := hid hu
  have HV := hid hv
  have hnl : Hid ((M.nat l).length ≤ 100000000) := by have := M.nat_length l; have := hlen.out; unfold Hid; omega
  clear hu hv
  go_enter Try.func66, Try.ntmps66
  go_wp2_with fail
  refine (natural_any w u l HU.out).mono ?_
  rintro e w' ⟨⟨u', rfl, hu'⟩, rfl⟩
  have HU' := hid hu'
  clear hu'
  go_wp2_with fail
  refine (natural_any w v m HV.out).mono ?_
  rintro e w' ⟨⟨v', rfl, hv'⟩, rfl⟩
  have HV' := hid hv'
  obtain ⟨A', n', c', rfl, hn', hc', hm', hs', hr'⟩ := hv'
  have hb' : n' ≤ 9223372036854775807 := by unfold maxLen at hm'; omega
  have HN' := hid hn'
  have HR' := hid hr'
  clear hn' hc' hm' hs' hr'
  by_cases h0 : n' = 0
  · subst h0
    have hm0 : Hid (M.nv m = 0) := by
      have := List.eq_nil_of_length_eq_zero HN'.out.symm
      unfold Hid
      rw [← M.val_nat, this]; rfl
    go_wp2_with (at_builtin; refine wpList_copy rfl (.tmp 20) rfl u' (M.nat l) rfl HU'.out (by have := hnl.out; omega) ?_)
    intro v2 w2 hv2 hb2
    have HV2 := hid hv2
    have HB2 := hid hb2
    clear hv2 hb2
    go_wp2
    go_ret2
    refine ⟨_, _, rfl, ?_, ?_, HB2.out⟩
    · rw [hm0.out, Nat.div_zero, M.limbs_zero]; exact Num.nil _ _
    · rw [hm0.out, Nat.mod_zero, M.limbs_nv]; exact HV2.out
  have hz0 : ((n' : Int) == 0) = false := by simpa using h0
  go_wp2_with fail
  refine (compare_any w u' _ _ _ HU'.out HV'.out (M.isNat_nat l) (M.isNat_nat m)).mono ?_
  rw [M.val_nat, M.val_nat]
  rintro e w' ⟨rfl, kd, rfl⟩
  have hbd := below_drewN (Below.refl w.heap.size w) kd
  have HU2 := hid (HU'.out.keep hbd (Nat.le_refl _))
  have HV2 := hid (HV'.out.keep hbd (Nat.le_refl _))
  have HBD := hid hbd
  clear hbd
  by_cases hlt : M.nv l < M.nv m
  · have HLT := hid hlt
    rw [M.cmp_lt hlt]
    clear hlt
    go_wp2_with (at_builtin; refine wpList_copy rfl (.tmp 20) rfl u' (M.nat l) rfl HU2.out (by have := hnl.out; omega) ?_)
    intro v2 w2 hv2 hb2
    have HV3 := hid hv2
    have HB2 := hid hb2
    clear hv2 hb2
    go_wp2
    go_ret2
    refine ⟨_, _, rfl, ?_, ?_, HBD.out.trans HB2.out⟩
    · rw [Nat.div_eq_of_lt HLT.out, M.limbs_zero]; exact Num.nil _ _
    · rw [Nat.mod_eq_of_lt HLT.out, M.limbs_nv]; exact HV3.out
  have hge : 0 ≤ M.cmp (M.nv l) (M.nv m) := by
    rcases Int.lt_or_le (M.cmp (M.nv l) (M.nv m)) 0 with h | h
    · exact absurd (M.cmp_neg.1 h) hlt
    · exact h
  obtain ⟨z, hz⟩ : ∃ z, z = M.cmp (M.nv l) (M.nv m) := ⟨_, rfl⟩
  rw [← hz] at hge ⊢
  have HLT := hid hlt
  clear hz hlt
  by_cases h1 : n' = 1
  · subst h1
    obtain ⟨ad, x, rfl, had, HX, hcell⟩ := HR'.out.get (k := 0) (by rw [← HN'.out]; omega)
    rw [Addr.add_zero'] at hcell
    have hm1 : Hid (M.nv m = x ∧ 0 < x ∧ x < 1000000000) := by
      have h1 := M.small_iff.1 (M.small_nat m) x (List.mem_of_getElem? HX.out)
      have h2 := M.last_nat m
      rw [List.getLast?_eq_getElem?, ← HN'.out, HX.out] at h2
      have h3 := HN'.out
      have h4 := HX.out
      unfold Hid
      rw [← M.val_nat]
      rcases hq : M.nat m with _ | ⟨y, r⟩
      · rw [hq] at h4; simp at h4
      · rw [hq] at h4 h3
        simp at h4 h3
        subst h4 h3
        simp [M.val]
        refine ⟨?_, h1⟩
        rcases Nat.eq_zero_or_pos y with h | h
        · subst h; exact absurd rfl h2
        · exact h
    go_wp2_with fail
    refine (byLimb_any (w.drewN kd) u' (M.nat l) x HU2.out (M.small_nat l) hnl.out hm1.out.2.1 hm1.out.2.2).mono ?_
    rw [M.val_nat, ← hm1.out.1]
    rintro e w' ⟨q, r, rfl, hq, hr, hb2⟩
    have HQ := hid hq
    have HRR := hid hr
    have HB2 := hid (HBD.out.trans hb2)
    clear hq hr hb2
    go_wp2
    go_ret2
    exact ⟨_, _, rfl, HQ.out, HRR.out, HB2.out⟩
  · have hz1 : ((n' : Int) == 1) = false := by simp; omega
    go_wp2_with fail
    refine (hrow.out (by rw [← HN'.out]; omega) (by have := HLT.out; omega) _ _ _ HU2.out HV2.out).mono ?_
    rintro e w' ⟨q, r, rfl, hq, hr, hb2⟩
    have HQ := hid hq
    have HRR := hid hr
    have HB2 := hid (HBD.out.trans hb2)
    clear hq hr hb2
    go_wp2
    go_ret2
    exact ⟨_, _, rfl, HQ.out, HRR.out, HB2.out⟩

/-- By a number of one limb at most. -/
theorem div_small (w : World) (u v : Value) (l m : List Nat) (hu : Num w w.heap.size u l) (hv : Num w w.heap.size v m) (hlen : Hid (l.length ≤ 100000000)) (hlen' : Hid (m.length ≤ 1)) :
    Calls Try.prog 66 #[u, v] w (Gives2 w (M.limbs (M.nv l / M.nv m)) (M.limbs (M.nv l % M.nv m))) :=
  div_of w u v l m hu hv hlen (fun h => by have := M.nat_length m; have := hlen'.out; omega)
end Go.Proofs.Ytljjijcmoafndaa
