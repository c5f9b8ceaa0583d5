/-
  Contract: a natural by another one of two limbs and more; with it: how often, and what is left, of any two naturals.
-/
import Derived.Test.YtljjijcmoafndaaDigit
namespace Go.Proofs.Ytljjijcmoafndaa
set_option linter.unusedSimpArgs false
set_option linter.unusedVariables false
open Go.RowKit

/-- 'copy(left, a)', left new and not shorter. -/
theorem wpList_into {w : World} {ops : Array Oper} {rest : List Oper} {o : Oper} {a : Act} {Q : Exit → Act → World → Prop} (hgd : o.guard = none) (d s : Operand)
    (ho : o.op = .call { callee := .builtin .copy, args := #[d, s], argTypes := #[22, 22] }) (g N : Nat) (v : Value) (l : List Nat)
    (hd : a.eval d = .slice (some ⟨g, 0, none⟩) N N) (hs : a.eval s = v) {C : Nat} (hv : Num w C v l) (hN : l.length ≤ N) (hg : Blk w g (List.replicate N 0)) (B : Nat) (w0 : World) (hb : Below B w0 w) (hBg : B ≤ g)
    (h : ∀ (z : Int) w', Hid (Blk w' g (l ++ List.replicate (N - l.length) 0)) → Below B w0 w' → wpList Try.prog ops Q rest (a.put o.dst (goInt z)) w') : wpList Try.prog ops Q (o :: rest) a w := by
  obtain ⟨i0, hi, hz0, hz1, hz2⟩ := info_parts info_u32
  obtain ⟨A, n, c, rfl, hn, hc, hm, hsm, hr⟩ := hv
  refine wpList_copy_splice hgd d s 22 22 ho 56 Try.underlying22 (by rw [hi]; simp [hz1]) (some ⟨g, 0, none⟩) A N N n c hd hs g 0 ((List.replicate N 0).map fun x : Nat => Value.int .u32 (x : Int)) 56 hg
    (l.map fun x : Nat => Value.int .u32 (x : Int)) (by rw [List.length_map, ← hn]; exact (Nat.min_eq_left (by omega)).symm) ?_ (by simp; omega) ?_ B w0 hb hBg ?_
  · intro h0
    refine ⟨rfl, ?_⟩
    obtain ⟨ad, e, _, hcell⟩ := hr (by rintro rfl; simp at h0)
    refine ⟨ad, e, fun j x hj => ?_⟩
    rw [List.getElem?_map] at hj
    obtain ⟨y, hy, rfl⟩ := Option.map_eq_some_iff.1 hj
    exact hcell j y hy
  · intro x hx
    obtain ⟨y, _, rfl⟩ := List.mem_map.1 hx
    rfl
  · intro w' hh hb'
    refine h _ w' ?_ hb'
    have := hh.out
    unfold Hid Blk
    rw [this]
    simp [splice]

/-- The row that 'trimmed' gives, by itself. -/
theorem limbs_take {l : List Nat} (hs : M.small l = true) : ∃ k, k ≤ l.length ∧ M.limbs (M.val l) = l.take k := by
  have h : ∀ k, k ≤ l.length → M.val (l.take k) = M.val l → ∃ j, j ≤ l.length ∧ M.limbs (M.val l) = l.take j := by
    intro k
    induction k with
    | zero =>
      intro h0 h1
      exact ⟨0, h0, (M.take_done hs h0 h1 (fun _ h => absurd h (by omega))).symm⟩
    | succ k ih =>
      intro h0 h1
      have hlt : k < l.length := by omega
      by_cases hz : l[k] = 0
      · exact ih (by omega) (by rw [M.take_nought hlt hz]; exact h1)
      · exact ⟨k + 1, h0, (M.take_done hs h0 h1 (fun _ _ => by simpa using hz)).symm⟩
  exact h l.length (Nat.le_refl _) (by rw [List.take_length])
theorem trimmed_num {w : World} {C : Nat} {A : Option Addr} {n c : Nat} {l : List Nat} (hv : Num w C (.slice A n c) l) (hs : M.small l = true) : Num w C (.slice A (M.limbs (M.val l)).length c) (M.limbs (M.val l)) := by
  obtain ⟨A2, n2, c2, he, hn, hc, hm, hsm, hr⟩ := hv
  injection he with he1 he2 he3
  subst he1 he2 he3
  obtain ⟨k, hk, e⟩ := limbs_take hs
  rw [e]
  exact ⟨_, _, _, rfl, rfl, by rw [List.length_take]; omega, hm, fun x hx => hsm x (List.mem_of_mem_take hx), hr.take k⟩

theorem byRow_any (w : World) (u v : Value) (l m : List Nat) (hu : Num w w.heap.size u l) (hv : Num w w.heap.size v m) (hl : Hid (M.isNat l = true)) (hm : Hid (M.isNat m = true)) (hlen : Hid (l.length ≤ 1000000)) (h2 : Hid (2 ≤ m.length)) (hle : Hid (M.val m ≤ M.val l)) :
    Calls Try.prog 80 #[u, v] w (Gives2 w (M.limbs (M.val l / M.val m)) (M.limbs (M.val l % M.val m))) := by
  have HU := hid hu
  have HV := hid hv
  have hml := M.length_le_of_val (M.isNat_iff.1 hl.out).1 (M.isNat_iff.1 hm.out).2 hle.out
  obtain ⟨A, n, c, rfl, hn, _⟩ := hu
  obtain ⟨A', n', c', rfl, hn', _⟩ := hv
  obtain ⟨k, rfl⟩ : ∃ k, n' = k + 2 := ⟨n' - 2, by have := h2.out; omega⟩
  obtain ⟨qn, hqn⟩ : ∃ qn, n + 1 = qn + (k + 2) := ⟨n + 1 - (k + 2), by omega⟩
  have hn9 : n ≤ 1000000 := by rw [hn]; exact hlen.out
  have HN := hid hn
  have HN' := hid hn'
  clear hn hn' hml
  have hmk : ∀ W : World, (Instr.makeSlice 22 (.int .i64 ((n : Int) + 1)) (.int .i64 ((n : Int) + 1))).run Try.prog W = .ok (.slice (some ⟨W.heap.size, 0, none⟩) (n + 1) (n + 1)) (W.alloc (.cells (zeros (n + 1)) 56)) :=
    make_u32 _ _ _ _ (n + 1) (n + 1) (by omega) (by omega) (Nat.le_refl _) (by omega)
  have hmk2 : ∀ W : World, (Instr.makeSlice 22 (.int .i64 (qn : Int)) (.int .i64 (qn : Int))).run Try.prog W = .ok (.slice (some ⟨W.heap.size, 0, none⟩) qn qn) (W.alloc (.cells (zeros qn) 56)) :=
    make_u32 _ _ _ _ qn qn rfl rfl (Nat.le_refl _) (by omega)
  have hq1 : (n : Int) + 1 - ((k : Int) + 2) = (qn : Int) := by omega
  have HQN := hid hqn
  have hqn9 : qn ≤ 1000001 := by omega
  clear hqn
  go_enter Try.func80, Try.ntmps80
  go_upto_region 2 with (fail)
  iterate 7 go_step
  refine wpList_into rfl (.tmp 11) (.tmp 12) rfl w.heap.size (n + 1) _ l rfl rfl (HU.out.keep (Ext.alloc w (.cells (zeros (n + 1)) 56)) (Nat.le_refl _)) (by have := HN.out; omega) (Blk.made _ _) w.heap.size w ((Below.refl _ _).alloc (Nat.le_refl _) _) (Nat.le_refl _) ?_
  intro z w1 hb1 hbel
  have HB1 := hid hb1.out
  have HE1 := hid hbel
  clear hb1 hbel hmk
  go_wp2
  have hm9 := hid (M.val_lt (M.isNat_iff.1 hm.out).1)
  have hmpos := hid (M.val_pos (l := m) (by intro e; have h := HN'.out; rw [e] at h; simp at h) (M.isNat_iff.1 hm.out).2)
  have hgh := hid (show w.heap.size < w1.heap.size from HB1.out.lt)
  go_loopw [6] (fun si wr => ∃ (t : Nat) (z : Int) (L o : List Nat), t ≤ qn ∧ z = (t : Int) - 1 ∧ si = .int .i64 z ∧ L.length = n + 1 ∧ M.small L = true ∧ o.length = qn ∧ M.small o = true ∧ Blk wr w.heap.size L ∧ Blk wr w1.heap.size o ∧ Below w.heap.size w wr ∧
    M.val (o.drop t) * (M.val m * 1000000000 ^ t) + M.val L = M.val l ∧ M.val (L.drop t) < M.val m) (fun si _ => (intOf si + 1).toNat)
  case atStart =>
    have h1 := HN.out
    have h2 := HN'.out
    have h3 := HQN.out
    refine ⟨qn, _, l ++ List.replicate (n + 1 - l.length) 0, List.replicate qn 0, Nat.le_refl _, rfl, rfl, by simp; omega, by rw [M.small_append]; exact ⟨(M.isNat_iff.1 hl.out).1, M.small_replicate _⟩, by simp, M.small_replicate _, HB1.out.grow (Ext.alloc _ _), Blk.made _ _, HE1.out.alloc HE1.out.size _, ?_, ?_⟩
    · rw [List.drop_eq_nil_of_le (by simp), M.val_pad]; simp [M.val]
    · rw [List.drop_append_of_le_length (by omega), M.val_pad]
      have h4 := M.val_lt (M.small_drop (M.isNat_iff.1 hl.out).1 qn)
      rw [List.length_drop] at h4
      have h5 := M.pow_le_val (k := k + 1) (M.isNat_iff.1 hm.out).1 (M.isNat_iff.1 hm.out).2 (by omega)
      have h6 : 1000000000 ^ (l.length - qn) ≤ 1000000000 ^ (k + 1) := Nat.pow_le_pow_right (by omega) (by omega)
      omega
  case round =>
    obtain ⟨t, zz, L, o, ht, hzz, rfl, hLl, hLs, hol, hos, hbg, hbh, hbel, hval, hlow⟩ := hrel
    have HLL := hid hLl
    have HLS := hid hLs
    have HOL := hid hol
    have HOS := hid hos
    have HBG := hid hbg
    have HBH := hid hbh
    have HB := hid hbel
    have HVAL := hid hval
    have HLOW := hid hlow
    clear hLl hLs hol hos hbg hbh hbel hval hlow
    rcases t with _ | i
    · obtain rfl : zz = -1 := by omega
      clear hzz
      have h1 := HVAL.out
      have h2 := HLOW.out
      simp only [List.drop_zero, Nat.pow_zero, Nat.mul_one] at h1 h2
      have hdm := M.div_mod_of h1 h2
      have htz := M.tail_zero (l := L) (m := k + 2) (by rw [HLL.out]; have := HQN.out; omega) h2 (by have := hm9.out; rw [← HN'.out] at this; exact Nat.le_of_lt this)
      have hnq := HBH.out.num (fun x hx => by have := M.small_iff.1 HOS.out x hx; omega) (by rw [HOL.out]; unfold maxLen; omega) HOL.out.symm
      have hnl := HBG.out.num_take (fun x hx => by have := M.small_iff.1 HLS.out x hx; omega) (by rw [HLL.out]; unfold maxLen; omega) HLL.out.symm (j := k + 2) (by have := HQN.out; omega)
      have hkn : k + 2 ≤ n + 1 := by have := HQN.out; omega
      have hkI : (k : Int) + 2 ≤ (n : Int) + 1 := by omega
      have hk0 : (0 : Int) ≤ (k : Int) + 2 := by omega
      have hkt : ((k : Int) + 2).toNat = k + 2 := by omega
      have HTQ := hid (fun d => trimmed_eq (wr.drewN d) _ _ _ o (hnq.keep (below_drewN (Below.refl _ wr) d) (Nat.le_refl _)) HOS.out)
      have HTL := hid (fun d => trimmed_eq (wr.drewN d) _ _ _ (L.take (k + 2)) (hnl.keep (below_drewN (Below.refl _ wr) d) (Nat.le_refl _)) (M.small_take HLS.out _))
      have HDM := hid hdm
      have HTZ := hid htz.2
      have HNQ := hid (trimmed_num hnq HOS.out)
      have HNL := hid (trimmed_num hnl (M.small_take HLS.out _))
      clear h1 h2 hdm htz hnq hnl
      go_wp2
      refine wp_region_quiet_lit (by kernel_rfl) (by kernel_rfl) ?_
      repeat (quiet_step ((go_at_call_of 87 (Value.slice (some ⟨w1.heap.size, 0, none⟩) qn qn); exact Calls.quiet_of_same ((HTQ.out _).mono fun _ _ h => ⟨h.1.1, h.2.symm⟩))))
      refine wpQuiet_step (fun K hK => ?_)
      go_simp
      apply Exists.intro
      refine ⟨fun _ => ?_, hK _ ?_⟩
      · exact Calls.quiet_of_same ((HTL.out _).mono fun _ _ h => ⟨h.1.1, h.2.symm⟩)
      clear hK K
      repeat (quiet_step (fail))
      refine wpQuiet_nil ?_
      intro _ hw'
      obtain ⟨nq, hw''⟩ := hw'
      subst hw''
      go_wp2
      go_ret2
      refine ⟨_, _, rfl, ?_, ?_, below_drewN HB.out _⟩
      · rw [← HDM.out.1]
        exact HNQ.out.keep (below_drewN (Below.refl _ wr) _) (Nat.le_refl _)
      · rw [← HDM.out.2, ← HTZ.out]
        exact HNL.out.keep (below_drewN (Below.refl _ wr) _) (Nat.le_refl _)
    · obtain rfl : zz = (i : Int) := by omega
      clear hzz
      have hb9 : Hid (M.val m ≤ 1000000000 ^ (k + 2)) := by have := hm9.out; rw [← HN'.out] at this; exact Nat.le_of_lt this
      obtain ⟨pre, s, post, rfl, hpre, hsl, hss, hslt, hpz, hps, hpos, hLv⟩ := M.row_cut HLL.out (i := i) (m := k + 2) (by have := HQN.out; omega) HLS.out HLOW.out hb9.out
      have hik : i + (k + 2) ≤ n := by have := HQN.out; omega
      have hiq : i < qn := by omega
      have HPRE := hid hpre
      have HSL := hid hsl
      have HSS := hid hss
      have HSLT := hid hslt
      have HPZ := hid hpz
      have HSM := hid (And.intro hps hpos)
      have HLV := hid hLv
      clear hpre hsl hss hslt hpz hps hpos hLv
      obtain ⟨q, hq⟩ : ∃ q, q = M.val s / M.val m := ⟨_, rfl⟩
      have HQ := hid hq
      have hq9 : q < 1000000000 := by rw [hq]; exact (Nat.div_lt_iff_lt_mul hmpos.out).2 (by rw [Nat.mul_comm]; exact HSLT.out)
      have HQ9 := hid hq9
      clear hq hq9
      go_wp2_with fail
      rw [show i + (k + 2) + 1 - i = k + 3 by omega]
      refine (digit_any wr w.heap.size i k (n + 1 - i) _ m pre s post (HV.out.keep HB.out (Nat.le_refl _)) (Nat.le_refl _) hm.out HN'.out (by omega) (by omega) (by omega) (by omega) HBG.out HPRE.out HSL.out HSS.out HSLT.out).mono ?_
      unfold Digit
      rw [← HQ.out]
      rintro e w3 ⟨s', rfl, hb3, hl3, hs3, hv3, ho3⟩
      have HB3 := hid hb3
      have HL3 := hid hl3
      have HS3 := hid hs3
      have HV3 := hid hv3
      have HBH3 := hid (ho3.blk HBH.out (by have := hgh.out; omega))
      have HE3 := hid (HB.out.trans (ho3.below (Nat.le_refl _) HBG.out.lt))
      clear hb3 hl3 hs3 hv3 ho3
      have hio : i < o.length := by rw [HOL.out]; omega
      obtain ⟨y, hy⟩ : ∃ y, o[i]? = some y := ⟨_, List.getElem?_eq_getElem hio⟩
      have hoc := HBH3.out.cell hy
      have hof := HBH3.out.frozen i
      have HIO := hid hio
      clear hy hio
      go_wp2
      go_roundw
      case rel =>
        have hj := M.val_joined (s := s') HPRE.out HPZ.out
        refine ⟨i, (i : Int) - 1, pre ++ s' ++ post, o.set i q, by omega, rfl, rfl, ?_, ?_, by rw [List.length_set]; exact HOL.out, M.small_set' HOS.out HQ9.out, HB3.out.far (by have := hgh.out; show w.heap.size ≠ w1.heap.size; omega) _, HBH3.out.put _ rfl, HE3.out.setCell (by have := hgh.out; show w.heap.size ≤ w1.heap.size; omega) _, ?_, ?_⟩
        · have h1 := HLL.out
          have h2 := HL3.out
          simp only [List.length_append] at h1 ⊢
          omega
        · rw [M.small_append, M.small_append]; exact ⟨⟨HSM.out.1, HS3.out⟩, HSM.out.2⟩
        · rw [M.drop_set HIO.out]
          have h1 := HVAL.out
          rw [Nat.pow_succ] at h1
          exact M.row_step h1 HLV.out (by rw [hj.1, HV3.out]) HQ.out
        · rw [hj.2, HV3.out]; exact Nat.mod_lt _ hmpos.out
      case measure => simp [intOf]; all_goals omega

/-- The face: of any two rows. -/
theorem div_any (w : World) (u v : Value) (l m : List Nat) (hu : Num w w.heap.size u l) (hv : Num w w.heap.size v m) (hlen : Hid (l.length ≤ 1000000)) :
    Calls Try.prog 66 #[u, v] w (Gives2 w (M.limbs (M.nv l / M.nv m)) (M.limbs (M.nv l % M.nv m))) :=
  div_of w u v l m hu hv (by have := hlen.out; unfold Hid; omega) (fun h2 hle W u v hu hv => by
    have h := byRow_any W u v (M.nat l) (M.nat m) hu hv (M.isNat_nat l) (M.isNat_nat m) (by have := M.nat_length l; have := hlen.out; unfold Hid; omega) h2 (by unfold Hid; rw [M.val_nat, M.val_nat]; exact hle)
    rw [M.val_nat, M.val_nat] at h
    exact h)
end Go.Proofs.Ytljjijcmoafndaa
