/-
  Contract of the reference's product; its sums and differences once more, over numbers.
-/
import Derived.Test.YtklmnmkmpkobhaaGreatJR
import Derived.Test.YtklmnmkmpkobhaaGreatHeld
import Derived.Deep.Cut
namespace Go.Proofs.YtklmnmkmpkobhaaGreat
set_option linter.unusedSimpArgs false
set_option linter.unusedVariables false
open Go.RowKit

theorem rshift_n {w : World} {v : Value} {N k x : Nat} (hv : IsN w v N k) (hx : (x : Int) < 1000000000) (hk : k ≤ 100000000) :
 Calls Tryz.prog 103 #[v, .int .u32 (x : Int)] w (GivesN w (x + 1000000000 * N) (k + 1)) := by
 have h := rShift_any w v _ x hv.1 (M.limbs_small N) hx (Nat.le_trans hv.2 hk)
 rw [M.val_limbs] at h
 refine h.mono fun _ _ ⟨u, he, hn, hb⟩ => ⟨u, he, ⟨hn, M.limbs_length_le ?_⟩, hb⟩
 have := hv.len
 rw [Nat.pow_succ]; omega
theorem rsmall_n {w : World} {v : Value} {N k m : Nat} (hv : IsN w v N k) (hm : (m : Int) ≤ 1000000000) (hk : k ≤ 100000000) :
 Calls Tryz.prog 104 #[v, .int .u64 (m : Int)] w (GivesN w (N * m) (k + 2)) := by
 have h := rSmall_any w v _ m hv.1 (M.limbs_small N) hm (Nat.le_trans hv.2 hk)
 rw [M.val_limbs] at h
 exact h.mono fun _ _ ⟨u, he, hn, hb⟩ => ⟨u, he, ⟨hn, M.limbs_mul_length _ _ hv.len (show m < 1000000000 ^ 2 by omega)⟩, hb⟩
theorem radd_n {w : World} {u v : Value} {a b j k : Nat} (hu : IsN w u a j) (hv : IsN w v b k) (hj : j ≤ 100000000) (hk : k ≤ 100000000) :
 Calls Tryz.prog 70 #[u, v] w (GivesN w (a + b) (max j k + 1)) := by
 have h := rAdd_any w u v _ _ hu.1 hv.1 (Nat.le_trans hu.2 hj) (Nat.le_trans hv.2 hk)
 rw [M.nv_limbs, M.nv_limbs] at h
 exact h.mono fun _ _ ⟨x, he, hx, hb⟩ => ⟨x, he, ⟨hx, M.limbs_add_length _ _ hu.len hv.len⟩, hb⟩
theorem rsub_n {w : World} {u v : Value} {a b j k : Nat} (hu : IsN w u a j) (hv : IsN w v b k) (hj : j ≤ 100000000) :
 Calls Tryz.prog 72 #[u, v] w (GivesN w (a - b) j) := by
 have h := rSub_any w u v _ _ hu.1 hv.1 (Nat.le_trans hu.2 hj)
 rw [M.nv_limbs, M.nv_limbs] at h
 exact h.mono fun _ _ ⟨x, he, hx, hb⟩ => ⟨x, he, ⟨hx, M.limbs_length_le (Nat.lt_of_le_of_lt (Nat.sub_le _ _) hu.len)⟩, hb⟩
theorem rcmp_n {w : World} {u v : Value} {a b j k : Nat} (hu : IsN w u a j) (hv : IsN w v b k) {z : Int} (hz : M.cmp a b = z) :
 Calls Tryz.prog 71 #[u, v] w fun e w' => e = .returned (.int .i64 z) ∧ Ext w w' := by
 have h := rCmp_any w u v _ _ hu.1 hv.1
 rw [M.nv_limbs, M.nv_limbs, hz] at h
 exact h.mono fun _ _ ⟨he, k, hk⟩ => ⟨he, by subst hk; exact below_drewN (Below.refl _ _) k⟩
theorem rnat_n {w : World} {v : Value} {l : List Nat} {k : Nat} (hv : Num w w.heap.size v l) (hk : l.length ≤ k) :
 Calls Tryz.prog 101 #[v] w fun e w' => (∃ v', e = .returned v' ∧ IsN w v' (M.nv l) k) ∧ w = w' :=
 (rNat_any w v l hv).mono fun _ _ ⟨⟨v', he, hn⟩, hw⟩ => ⟨⟨v', he, by rw [M.limbs_nv]; exact hn, by rw [M.limbs_nv]; exact Nat.le_trans (M.nat_length l) hk⟩, hw⟩
/-- A cell holds a value. -/
def CellAt (w : World) (p : Addr) (v : Value) : Prop := w.cell? p = some v
theorem CellAt.up {w w' : World} {p : Addr} {v : Value} (h : CellAt w p v) (e : Ext w w') : CellAt w' p v := by
 have hl := World.block_lt_of_cell? w _ h
 unfold CellAt at *
 rw [← h]; exact Below.cell e hl
theorem M.mul_drop {A : Nat} {l : List Nat} {k x : Nat} (h : l[k]? = some x) : A * M.val (l.drop k) = (0 + 1000000000 * (A * M.val (l.drop (k + 1)))) + A * x := by
 rw [M.drop_at h, M.val, Nat.mul_add, Nat.mul_left_comm]; omega
theorem M.val_drop_le (l : List Nat) (k : Nat) : M.val (l.drop k) ≤ M.val l := by
 have := M.val_append (l.take k) (l.drop k)
 rw [List.take_append_drop] at this
 have h1 : M.val (l.drop k) ≤ 1000000000 ^ (l.take k).length * M.val (l.drop k) := Nat.le_mul_of_pos_left _ (Nat.pow_pos (by omega))
 omega


set_option maxHeartbeats 2000000 in
theorem rmul_n {w : World} {u v : Value} {l m : List Nat} {j q : Nat} (hu : Num w w.heap.size u l) (hv : Num w w.heap.size v m) (hl : l.length ≤ j) (hm : m.length ≤ q) (hj : Hid (j ≤ 1000000)) (hq : Hid (q ≤ 1000000)) :
 Calls Tryz.prog 74 #[u, v] w (GivesN w (M.nv l * M.nv m) (j + q)) := by
 have HU := hid hu
 have HV := hid hv
 have HL := hid hl
 have HM := hid hm
 clear hu hv hl hm
 go_enter Tryz.func74, Tryz.ntmps74
 go_wp2_with fail
 refine (rnat_n HU.out HL.out).mono ?_
 rintro e wq ⟨⟨u', rfl, x1⟩, rfl⟩
 have R := hid x1
 clear x1
 go_wp2_with fail
 refine (rnat_n HV.out HM.out).mono ?_
 rintro e wq ⟨⟨v', rfl, x1⟩, rfl⟩
 have R' := hid x1
 clear x1
 obtain ⟨A, n, c, rfl⟩ := R.out.1.slice
 obtain ⟨A', n', c', rfl⟩ := R'.out.1.slice
 obtain ⟨A2, n2, c2, e2, hn, hc, hmx, hs, hr⟩ := R'.out.1
 injection e2 with e2 e3 e4
 subst e2 e3 e4
 have hb : n' ≤ 9223372036854775807 := by unfold maxLen at hmx; omega
 have HR := hid hr
 have HN := hid hn
 have HS := hid (M.small_iff.1 (M.limbs_small (M.nv m)))
 have HB1 := hid R.out.len
 have HB2 := hid R'.out.len
 clear hr hn hs hmx hc HU HV HL HM
 go_wp2
 go_loopw [7, 8] (fun o i wr => ∃ (k : Nat) (z : Int) (Ao : Option Addr) (no co : Nat), k ≤ n' ∧ z = (k : Int) - 1 ∧ i = .int .i64 z ∧ o = .slice Ao no co ∧ IsN wr (.slice Ao no co) (M.nv l * M.val ((M.limbs (M.nv m)).drop k)) (j + q) ∧ Ext w wr) (fun _ i _ => (intOf i + 1).toNat)
 case atStart => exact ⟨n', _, none, 0, 0, Nat.le_refl _, rfl, rfl, rfl, by rw [List.drop_eq_nil_of_le (by rw [← HN.out]; exact Nat.le_refl _)]; exact ⟨by rw [M.val, Nat.mul_zero, M.limbs_zero]; exact Num.nil _ _, by rw [M.val, Nat.mul_zero, M.limbs_zero]; simp⟩, Ext.refl _⟩
 case round =>
  obtain ⟨k, z, Ao, no, co, hk, hz, rfl, rfl, ho, hext⟩ := hrel
  have RO := hid ho
  have E := hid hext
  clear ho hext
  rcases k with _ | k
  ·obtain rfl : z = -1 := by omega
   clear hz
   go_wp2
   go_ret
   refine ⟨_, rfl, ?_, E.out⟩
   have := RO.out
   rw [List.drop_zero, M.val_limbs] at this
   exact this
  ·obtain rfl : z = (k : Int) := by omega
   clear hz
   have hlt : k < n' := by omega
   obtain ⟨ad, x, rfl, _, HX, hcell⟩ := (HR.out.keep E.out.below E.out.size).get (k := k) (by rw [← HN.out]; exact hlt)
   have hx9 := HS.out x (List.mem_of_getElem? HX.out)
   have KC := hid (show CellAt wr (ad.add k) (.int .u32 (x : Int)) from hcell)
   have hk0 : (0 : Int) ≤ (k : Int) := by omega
   have hk1 : (k : Int) < (n' : Int) := by omega
   clear hcell
   have R := hid (R.out.up E.out)
   go_upto_region 6 with (fail)
   refine wp_region_D [(0, 0), (2, 0), (3, 0), (4, 0), (5, 0), (6, 0), (7, 0), (1, 1), (8, 1), (9, 1), (10, 0)] fun wd hb => ?_
   replace E := hid (E.out.trans hb)
   replace R := hid (R.out.up hb)
   replace RO := hid (RO.out.up hb)
   replace KC := hid (KC.out.up hb)
   clear hb
   refine WE.p 20 (.slice Ao no co) ?_
   refine WE.p 22 (.slice A n c) ?_
   refine WE.p 23 (.slice (some ad) n' c') ?_
   refine WE.p 24 (.int .i64 (k : Int)) ?_
   refine WE.p 25 (.pointer (some (ad.add k))) ?_
   refine WE.q 26 (.int .u32 (x : Int)) rfl (fun w' hk => by have c0 : w'.cell? (ad.add k) = some (.int .u32 (x : Int)) := KC.out.up hk; go_simp) ?_
   simp only [Act.put, pA, pB, pC]
   refine WE.q 27 (.int .u64 (x : Int)) rfl (fun w' hk => by have q1 : IntKind.u64.wrap (x : Int) = (x : Int) := (by rw [IntKind.wrap_u64]; omega); go_simp) ?_
   refine WE.call (d := some 21) rfl rfl (by rfl) (f := 103) (args := #[(.slice Ao no co), (.int .u32 (0))]) (by go_simp) ?_
   refine (rshift_n (x := 0) RO.out (by omega) (by have := hj.out; have := hq.out; omega)).mono ?_
   rintro e wn ⟨vx, rfl, hx, hb⟩
   obtain ⟨A1, n1, c1, rfl⟩ := hx.1.slice
   refine ⟨_, rfl, hb, ?_⟩
   replace E := hid (E.out.trans hb)
   replace R := hid (R.out.up hb)
   have R1 := hid hx
   clear hb hx
   refine WE.call (d := some 28) rfl rfl (by rfl) (f := 104) (args := #[(.slice A n c), (.int .u64 (x : Int))]) (by go_simp) ?_
   refine (rsmall_n R.out (m := x) (by omega) (by have := hj.out; omega)).mono ?_
   rintro e wn ⟨vx, rfl, hx, hb⟩
   obtain ⟨A2, n2, c2, rfl⟩ := hx.1.slice
   refine ⟨_, rfl, hb, ?_⟩
   replace E := hid (E.out.trans hb)
   replace R1 := hid (R1.out.up hb)
   have R2 := hid hx
   clear hb hx
   refine WE.call (d := some 29) rfl rfl (by rfl) (f := 70) (args := #[(.slice A1 n1 c1), (.slice A2 n2 c2)]) (by go_simp) ?_
   refine (radd_n R1.out R2.out (by have := hj.out; have := hq.out; omega) (by have := hj.out; omega)).mono ?_
   rintro e wn ⟨vx, rfl, hx, hb⟩
   obtain ⟨A3, n3, c3, rfl⟩ := hx.1.slice
   refine ⟨_, rfl, hb, ?_⟩
   replace E := hid (E.out.trans hb)
   have R3 := hid hx
   clear hb hx
   refine WE.p 7 (.slice A3 n3 c3) ?_
   simp only [Act.put, pA, pB, pC]
   refine WE.done ?_
   go_wp2
   go_roundw
   case rel =>
    refine ⟨k, _, A3, n3, c3, by omega, rfl, by go_num, rfl, ?_, E.out⟩
    have e := M.mul_drop (A := M.nv l) HX.out
    refine ⟨by rw [e]; exact R3.out.1, M.limbs_length_le ?_⟩
    rw [Nat.pow_add]
    have h1 := M.val_drop_le (M.limbs (M.nv m)) k
    rw [M.val_limbs] at h1
    exact Nat.lt_of_le_of_lt (Nat.mul_le_mul_left _ h1) (Nat.mul_lt_mul'' HB1.out HB2.out)
   case measure => simp [intOf]; all_goals omega
end Go.Proofs.YtklmnmkmpkobhaaGreat

/-
  Contract of the reference's quotient and rest.
-/
namespace Go.Proofs.YtklmnmkmpkobhaaGreat
set_option linter.unusedSimpArgs false
set_option linter.unusedVariables false
open Go.RowKit

theorem rTrim_at (w : World) (A0 : Option Addr) (n0 c0 : Nat) (l : List Nat) {C : Nat} (hv : Num w C (.slice A0 n0 c0) l) (hsm : Hid (M.small l = true)) :
 Calls Tryz.prog 102 #[.slice A0 n0 c0] w fun e w' => (∃ k, e = .returned (.slice A0 k c0) ∧ Num w C (.slice A0 k c0) (M.limbs (M.val l))) ∧ w = w' := by
 obtain ⟨A, n, c, he0, hn, hc, hm, hs, hr⟩ := hv
 injection he0 with e1 e2 e3
 subst e1 e2 e3
 have hb : n0 ≤ 9223372036854775807 := by unfold maxLen at hm; omega
 have HR := hid hr
 have HN := hid hn
 have HS := hid hs
 have HM := hid hm
 clear hr hn hs hm
 go_enter Tryz.func102, Tryz.ntmps102
 go_wp2
 go_loop [3] (fun s => ∃ k : Nat, k ≤ n0 ∧ s = .int .i64 (k : Int) ∧ M.val (l.take k) = M.val l) (fun s => (intOf s).toNat)
 case atStart => exact ⟨n0, Nat.le_refl _, rfl, by rw [HN.out, List.take_length]⟩
 case round =>
  obtain ⟨k, hk, rfl, hval⟩ := hrel
  have HV := hid hval
  clear hval
  have hend : (∀ h : k - 1 < l.length, 0 < k → l[k - 1] ≠ 0) → Hid (Num w C (.slice A0 k c0) (M.limbs (M.val l))) := fun hz => by
   have hkl : k ≤ l.length := by rw [← HN.out]; exact hk
   have e := M.take_done hsm.out hkl HV.out hz
   rw [← e]
   exact ⟨A0, k, c0, rfl, by rw [List.length_take]; omega, by omega, HM.out, fun x hx => HS.out x (List.mem_of_mem_take hx), HR.out.take k⟩
  by_cases h0 : k = 0
  ·subst h0
   have H := hend (fun _ h => absurd h (by omega))
   clear hend
   go_wp2
   go_ret
   exact ⟨⟨_, rfl, H.out⟩, rfl⟩
  ·have h1 : 1 ≤ k := by omega
   obtain ⟨ad, x, rfl, _, HX, hcell⟩ := HR.out.get (k := k - 1) (by rw [← HN.out]; omega)
   by_cases hx : x = 0
   ·subst hx
    clear hend
    go_wp2
    go_round
    case rel =>
     refine ⟨k - 1, by omega, by congr 1; omega, ?_⟩
     have hlt : k - 1 < l.length := by rw [← HN.out]; omega
     have := M.take_nought hlt (by have := HX.out; rw [List.getElem?_eq_getElem hlt] at this; injection this)
     rw [this, show k - 1 + 1 = k by omega]; exact HV.out
    case measure => simp [intOf]; all_goals omega
   ·have hx' : ((x : Int) == 0) = false := by simpa using hx
    have H := hend (fun h _ => by have := HX.out; rw [List.getElem?_eq_getElem h] at this; injection this with this; rw [this]; exact hx)
    clear hend
    go_wp2
    go_ret
    exact ⟨⟨_, rfl, H.out⟩, rfl⟩


/-- A row whose array, if it has one, was made from block B on. -/
def Fresh (B : Nat) (v : Value) : Prop := ∃ A n c, v = .slice A n c ∧ ∀ ad, A = some ad → B ≤ ad.block
theorem rshift_new {w : World} {v : Value} {N k x : Nat} (hv : IsN w v N k) (hx : (x : Int) < 1000000000) (hk : Hid (k ≤ 100000000)) :
 Calls Tryz.prog 103 #[v, .int .u32 (x : Int)] w fun e w' => ∃ A n c, e = .returned (.slice A n c) ∧ IsN w' (.slice A n c) (x + 1000000000 * N) (k + 1) ∧ (∀ ad, A = some ad → w.heap.size ≤ ad.block) ∧ Ext w w' := by
 have HV := hid hv
 clear hv
 go_enter Tryz.func103, Tryz.ntmps103
 go_wp2_with (at_builtin; refine wpList_appN rfl (.tmp 6) (.tmp 7) rfl w.heap.size _ [x] rfl (Own.one w x (by omega)) _ (M.limbs N) rfl (HV.out.1.up (Ext.alloc w _)) (by have := hk.out; have := HV.out.2; simp; omega) (by simp) ?_)
 intro v' w' hown hgrow
 have HO := hid hown
 have HE := hid (show Ext w w' from (Ext.alloc w (.cells #[.int .u32 (x : Int)] 93)).below.trans ((Own.one w x (by omega)).below hgrow (Nat.le_refl _) (by simp)))
 clear hown hgrow
 obtain ⟨A, n, c, rfl⟩ := HO.out.num.slice
 have HF := hid (show ∀ ad, A = some ad → w.heap.size ≤ ad.block by
  intro ad hA
  rcases HO.out.1.2 with ⟨e, _⟩ | ⟨g, cap, cur, e, hb, _⟩
  ·injection e with e1; rw [hA] at e1; cases e1
  ·injection e with e1; rw [hA] at e1; injection e1 with e1; subst e1; exact hb)
 go_wp2_with fail
 refine (rTrim_at _ _ _ _ ([x] ++ M.limbs N) HO.out.num (by unfold Hid; rw [M.small_append]; exact ⟨by simp [M.small]; omega, M.limbs_small N⟩)).mono ?_
 rintro e w2 ⟨⟨k2, rfl, hn2⟩, rfl⟩
 have HN2 := hid hn2
 clear hn2
 go_wp2
 go_ret
 refine ⟨A, k2, c, rfl, ⟨?_, M.limbs_length_le ?_⟩, HF.out, HE.out⟩
 ·have := HN2.out
  have e : M.val ([x] ++ M.limbs N) = x + 1000000000 * N := by rw [List.singleton_append, M.val, M.val_limbs]
  rw [e] at this
  exact this
 ·have := HV.out.len
  rw [Nat.pow_succ]; omega
/-- A row that lies in another block stays, when the block g is written. -/
theorem Num.away {w w' : World} {g : Nat} {A : Option Addr} {n c : Nat} {l : List Nat} (h : Num w w.heap.size (.slice A n c) l) (hg : ∀ ad, A = some ad → ad.block ≠ g) (hk : Kept [g] w w') : Num w' w'.heap.size (.slice A n c) l := by
 obtain ⟨A', n', c', e, hn, hc, hm, hs, hr⟩ := h
 injection e with e1 e2 e3
 subst e1 e2 e3
 refine ⟨A, n, c, rfl, hn, hc, hm, hs, fun hne => ?_⟩
 obtain ⟨ad, e, hlt, hcell⟩ := hr hne
 refine ⟨ad, e, Nat.lt_of_lt_of_le hlt hk.1.size, fun i x hx => ?_⟩
 rw [← hcell i x hx]
 exact World.cell?_of_block (by rw [addr_block]; exact hk.2 ad.block hlt (by simpa using hg ad e))
theorem IsN.away {w w' : World} {g : Nat} {A : Option Addr} {n c N k : Nat} (h : IsN w (.slice A n c) N k) (hg : ∀ ad, A = some ad → ad.block ≠ g) (hk : Kept [g] w w') : IsN w' (.slice A n c) N k := ⟨h.1.away hg hk, h.2⟩
theorem IsN.low {w : World} {A : Option Addr} {n c N k : Nat} (h : IsN w (.slice A n c) N k) (hN : N ≠ 0) : ∀ ad, A = some ad → ad.block < w.heap.size := by
 intro ad hA
 obtain ⟨A', n', c', e, _, _, _, _, hr⟩ := h.1
 injection e with e1
 subst e1
 obtain ⟨ad', e', hlt, _⟩ := hr (M.limbs_ne hN)
 rw [hA] at e'; injection e' with e'; subst e'; exact hlt
theorem M.quo_bound {s B d : Nat} (hB : 0 < B) : (B * d ≤ s) ↔ d ≤ s / B := by rw [Nat.le_div_iff_mul_le hB, Nat.mul_comm]

set_option maxHeartbeats 4000000 in
theorem rdiv_n {w : World} {u v : Value} {l m : List Nat} {j q : Nat} (hu : Num w w.heap.size u l) (hv : Num w w.heap.size v m) (hl : l.length ≤ j) (hm : m.length ≤ q) (hj : Hid (j ≤ 1000000)) (hq : Hid (q ≤ 1000000)) :
 Calls Tryz.prog 100 #[u, v] w (GivesN2 w (M.nv l / M.nv m) j (M.nv l % M.nv m) (max j q)) := by
 have HU := hid hu
 have HV := hid hv
 have HL := hid hl
 have HM := hid hm
 obtain ⟨a, ha⟩ : ∃ a, a = M.nv l := ⟨_, rfl⟩
 obtain ⟨b, hb⟩ : ∃ b, b = M.nv m := ⟨_, rfl⟩
 rw [← ha, ← hb]
 have HAA := hid ha
 have HBB := hid hb
 clear hu hv hl hm ha hb
 go_enter Tryz.func100, Tryz.ntmps100
 go_wp2_with fail
 refine (rnat_n HU.out HL.out).mono ?_
 rintro e wq ⟨⟨u', rfl, x1⟩, rfl⟩
 have R := hid x1
 clear x1
 go_wp2_with fail
 refine (rnat_n HV.out HM.out).mono ?_
 rintro e wq ⟨⟨v', rfl, x1⟩, rfl⟩
 have R' := hid x1
 clear x1 HU HV HL HM
 obtain ⟨A, n, c, rfl⟩ := R.out.1.slice
 obtain ⟨A', n', c', rfl⟩ := R'.out.1.slice
 have HN' := hid (show n' = (M.limbs (M.nv m)).length by obtain ⟨_, _, _, e, h, _⟩ := R'.out.1; injection e with _ e2; rw [e2, h])
 rw [← HAA.out] at R
 rw [← HBB.out] at R' HN'
 clear HAA HBB
 by_cases h0 : n' = 0
 ·subst h0
  have HB := hid (show b = 0 from M.limbs_eq_nil.1 (List.eq_nil_of_length_eq_zero HN'.out.symm))
  go_wp2
  go_ret2
  refine ⟨_, _, rfl, ⟨?_, ?_⟩, ?_, Ext.refl _⟩
  ·rw [HB.out, Nat.div_zero, M.limbs_zero]; exact Num.nil _ _
  ·rw [HB.out, Nat.div_zero, M.limbs_zero]; simp
  ·rw [HB.out, Nat.mod_zero]; exact ⟨R.out.1, Nat.le_trans R.out.2 (by omega)⟩
 ·have hn0 : ((n' : Int) == 0) = false := by simpa using h0
  have HB := hid (show 0 < b by
   rcases Nat.eq_zero_or_pos b with h | h
   ·rw [h, M.limbs_zero] at HN'; exact absurd HN'.out h0
   ·exact h)
  clear h0
  obtain ⟨A2, n2, c2, e2, hn, hc, hmx, hs, hr⟩ := R.out.1
  injection e2 with e2 e3 e4
  subst e2 e3 e4
  have hb9 : n ≤ 1000000 := by rw [hn]; exact Nat.le_trans R.out.2 hj.out
  have HR := hid hr
  have HN := hid hn
  have HS := hid (M.small_iff.1 (M.limbs_small a))
  have HLOW := hid (R'.out.low (by have := HB.out; omega))
  have HA := hid R.out.len
  have HBL := hid R'.out.len
  clear hr hn hs hmx hc
  have hmk : ∀ W : World, (Instr.makeSlice 23 (.int .i64 (n : Int)) (.int .i64 (n : Int))).run Tryz.prog W = .ok (.slice (some ⟨W.heap.size, 0, none⟩) n n) (W.alloc (.cells (zeros n) 93)) :=
   make_u32 _ _ _ _ n n rfl rfl (Nat.le_refl _) (by omega)
  go_wp2
  clear hmk
  go_loopw [9, 10, 11, 12, 13] (fun rv i x11 x12 x13 wr => ∃ (k rr : Nat) (z : Int) (o : List Nat) (Ar : Option Addr) (nr cr : Nat), k ≤ n ∧ z = (k : Int) - 1 ∧ i = .int .i64 z ∧ rv = .slice Ar nr cr ∧ IsN wr (.slice Ar nr cr) rr q ∧ rr < b ∧ o.length = n ∧ Blk wr w.heap.size o ∧ Below w.heap.size w wr ∧ M.small o = true ∧
   M.val (o.drop k) * b + rr = M.val ((M.limbs a).drop k)) (fun _ i _ _ _ _ => (intOf i + 1).toNat)
  case atStart => exact ⟨n, 0, _, List.replicate n 0, none, 0, 0, Nat.le_refl _, rfl, rfl, rfl, ⟨by rw [M.limbs_zero]; exact Num.nil _ _, by rw [M.limbs_zero]; simp⟩, HB.out, by simp, Blk.made _ _, (Below.refl _ _).alloc (Nat.le_refl _) _, M.small_replicate _, by rw [List.drop_eq_nil_of_le (by simp), List.drop_eq_nil_of_le (by rw [← HN.out]; exact Nat.le_refl _)]; simp [M.val]⟩
  case round =>
   obtain ⟨k, rr, z, o, Ar, nr, cr, hk, hz, rfl, rfl, hro, hrb, ho, hblk, hbel, hsm, hval⟩ := hrel
   have RO := hid hro
   have HO := hid ho
   have HBK := hid hblk
   have HBE := hid hbel
   have HSM := hid hsm
   have HVL := hid hval
   have HRB := hid hrb
   clear hro ho hblk hbel hsm hval hrb
   rcases k with _ | k
   ·obtain rfl : z = -1 := by omega
    clear hz
    have hov : M.val o = a / b ∧ rr = a % b := by
     have h1 := HVL.out
     simp only [List.drop_zero] at h1
     rw [M.val_limbs] at h1
     exact M.div_mod_of h1 HRB.out
    have HNUM := hid (HBK.out.num (fun x hx => by have := M.small_iff.1 HSM.out x hx; omega) (by rw [HO.out]; unfold maxLen; omega) HO.out.symm)
    have HOV := hid hov
    clear hov
    go_wp2_with fail
    refine (rTrim_any wr _ o HNUM.out HSM.out).mono ?_
    rintro e w' ⟨⟨v', rfl, hv'⟩, rfl⟩
    have HV' := hid hv'
    clear hv'
    go_wp2
    go_ret2
    refine ⟨_, _, rfl, ⟨?_, ?_⟩, ?_, HBE.out⟩
    ·rw [← HOV.out.1]; exact HV'.out
    ·exact M.limbs_length_le (Nat.lt_of_le_of_lt (Nat.div_le_self _ _) HA.out)
    ·rw [← HOV.out.2]; exact ⟨RO.out.1, Nat.le_trans RO.out.2 (by omega)⟩
   ·obtain rfl : z = (k : Int) := by omega
    clear hz
    have hlt : k < n := by omega
    obtain ⟨ad, x, rfl, had, HX, hcell⟩ := (HR.out.keep HBE.out (Nat.le_refl _)).get (k := k) (by rw [← HN.out]; exact hlt)
    have hx9 := HS.out x (List.mem_of_getElem? HX.out)
    go_wp2_with fail
    refine (rshift_new RO.out (by omega) (by have := hq.out; unfold Hid; omega)).mono ?_
    rintro e wn ⟨As, ns, cs, rfl, xs, xf, hb⟩
    have RS := hid xs
    have HF := hid xf
    have HBE2 := hid (HBE.out.trans (hb.below.mono HBE.out.size))
    have HBK2 := hid (HBK.out.grow hb)
    have HSZ := hid (show w.heap.size < wr.heap.size from HBK.out.lt)
    have RB := hid (show IsN wn (.slice A' n' c') b q from ⟨R'.out.1.keep HBE2.out HBE2.out.size, R'.out.2⟩)
    clear xs xf hb hcell RO HBE HBK
    obtain ⟨s, hs⟩ : ∃ s, s = x + 1000000000 * rr := ⟨_, rfl⟩
    rw [← hs] at RS
    have hs9 : s < 1000000000 * b := by have := HRB.out; omega
    have HQ9 := hid (show s / b < 1000000000 by exact (Nat.div_lt_iff_lt_mul HB.out).2 hs9)
    have HSS := hid hs
    clear hs hs9
    go_wp2
    go_loopw [11, 12, 13] (fun x11 x12 x13 wi => ∃ lo hi : Nat, x11 = .int .u64 (lo : Int) ∧ x12 = .int .u64 (hi : Int) ∧ lo ≤ s / b ∧ s / b ≤ hi ∧ hi ≤ 999999999 ∧ Ext wn wi) (fun x11 x12 _ _ => (intOf x12 - intOf x11).toNat)
    case atStart => exact ⟨0, 999999999, rfl, rfl, Nat.zero_le _, by have := HQ9.out; omega, by omega, Ext.refl _⟩
    case round =>
     obtain ⟨lo, hi, rfl, rfl, h1, h2, h3, hext⟩ := hrel
     have E := hid hext
     have HLO := hid h1
     have HHI := hid h2
     clear h1 h2 hext
     by_cases hlh : lo < hi
     ·obtain ⟨d, hd⟩ : ∃ d, d = (lo + hi + 1) / 2 := ⟨_, rfl⟩
      have hdI : ((lo : Int) + (hi : Int) + 1) / 2 = (d : Int) := by omega
      have hd1 : lo < d := by omega
      have hd2 : d ≤ hi := by omega
      have HDD := hid hd
      clear hd
      by_cases hc : d ≤ s / b
      ·obtain ⟨z, hz⟩ : ∃ z : Int, M.cmp (b * d) s = z := ⟨_, rfl⟩
       have hz0 : decide (z ≤ 0) = true := by rw [← hz]; simpa using M.cmp_nonpos ((M.quo_bound HB.out).2 hc)
       have HZ := hid hz
       have HC := hid hc
       clear hz hc
       go_wp2_with fail
       refine (rsmall_n (m := d) ⟨RB.out.1.up E.out, RB.out.2⟩ (by omega) (by have := hq.out; omega)).mono ?_
       rintro e w2 ⟨v1, rfl, x1, hb⟩
       have R1 := hid x1
       have E2 := hid (E.out.trans hb)
       clear x1 hb
       go_wp2_with fail
       refine (rcmp_n R1.out ⟨RS.out.1.up E2.out, RS.out.2⟩ HZ.out).mono ?_
       rintro e w3 ⟨rfl, hb⟩
       have E3 := hid (E2.out.trans hb)
       clear hb
       go_wp2
       go_roundw
       case rel => exact ⟨d, hi, rfl, rfl, HC.out, HHI.out, h3, E3.out⟩
       case measure => simp [intOf]; all_goals omega
      ·have hz0 : decide ((1 : Int) ≤ 0) = false := by decide
       have HC := hid hc
       have hdm : (d : Int) - 1 = ((d - 1 : Nat) : Int) := by omega
       clear hc
       go_wp2_with fail
       refine (rsmall_n (m := d) ⟨RB.out.1.up E.out, RB.out.2⟩ (by omega) (by have := hq.out; omega)).mono ?_
       rintro e w2 ⟨v1, rfl, x1, hb⟩
       have R1 := hid x1
       have E2 := hid (E.out.trans hb)
       clear x1 hb
       go_wp2_with fail
       refine (rcmp_n R1.out ⟨RS.out.1.up E2.out, RS.out.2⟩ (z := 1) (M.cmp_gt (by have := mt (M.quo_bound (s := s) (d := d) HB.out).1 HC.out; omega))).mono ?_
       rintro e w3 ⟨rfl, hb⟩
       have E3 := hid (E2.out.trans hb)
       clear hb
       go_wp2
       go_roundw
       case rel => exact ⟨lo, d - 1, rfl, rfl, HLO.out, by have := HC.out; omega, by omega, E3.out⟩
       case measure => simp [intOf]; all_goals omega
     ·have HEQ := hid (show lo = s / b by have := HLO.out; have := HHI.out; omega)
      have hlo9 : (lo : Int) ≤ 999999999 := by have := HEQ.out; have := HQ9.out; omega
      have HBK3 := hid (HBK2.out.grow E.out)
      have hko : k < o.length := by rw [HO.out]; exact hlt
      obtain ⟨y, hy⟩ : ∃ y, o[k]? = some y := ⟨_, List.getElem?_eq_getElem hko⟩
      have HKO := hid hko
      have hoc := HBK3.out.cell hy
      have hof := HBK3.out.frozen k
      clear hy hko
      go_wp2_with fail
      have KP := hid (kept_setAt (w := wr) (g := w.heap.size) (o := k) (.int .u32 (lo : Int)))
      have RB4 := hid (IsN.away (⟨RB.out.1.up E.out, RB.out.2⟩ : IsN wr (.slice A' n' c') b q) (fun ad h => Nat.ne_of_lt (HLOW.out ad h)) KP.out)
      have RS4 := hid (IsN.away (⟨RS.out.1.up E.out, RS.out.2⟩ : IsN wr (.slice As ns cs) s (q + 1)) (fun ad h => by have := HF.out ad h; have := HSZ.out; omega) KP.out)
      have HBK4 := hid (HBK3.out.put k (x := lo) rfl)
      have HBE4 := hid ((HBE2.out.trans (E.out.below.mono HBE2.out.size)).setCell (p := ⟨w.heap.size, k, none⟩) (Nat.le_refl _) (.int .u32 (lo : Int)))
      clear KP HBK3 RB RS hoc hof E
      refine (rsmall_n (m := lo) RB4.out (by omega) (by have := hq.out; omega)).mono ?_
      rintro e w2 ⟨v1, rfl, x1, hb⟩
      have R1 := hid x1
      have RS5 := hid (RS4.out.up hb)
      have HBK5 := hid (HBK4.out.grow hb)
      have HBE5 := hid (HBE4.out.trans (hb.below.mono HBE4.out.size))
      clear x1 hb RS4 HBK4 HBE4
      go_wp2_with fail
      refine (rsub_n RS5.out R1.out (by have := hq.out; omega)).mono ?_
      rintro e w3 ⟨v2, rfl, x1, hb⟩
      obtain ⟨A3, n3, c3, rfl⟩ := x1.1.slice
      have R2 := hid x1
      have HBK6 := hid (HBK5.out.grow hb)
      have HBE6 := hid (HBE5.out.trans (hb.below.mono HBE5.out.size))
      clear x1 hb RS5 HBK5 HBE5
      go_wp2
      go_roundw
      case rel =>
       have e1 : s - b * lo = s % b := by rw [HEQ.out]; have := Nat.div_add_mod s b; omega
       refine ⟨k, s % b, _, o.set k lo, A3, n3, c3, by omega, rfl, by go_num, rfl, ?_, Nat.mod_lt _ HB.out, by rw [List.length_set]; exact HO.out, HBK6.out, HBE6.out, M.small_set' HSM.out (by omega), ?_⟩
       ·rw [← e1]
        exact ⟨R2.out.1, by rw [e1]; exact M.limbs_length_le (Nat.lt_trans (Nat.mod_lt _ HB.out) HBL.out)⟩
       ·rw [M.drop_set HKO.out, M.drop_at HX.out]
        exact M.div_step HVL.out (by rw [HSS.out]; omega) HEQ.out rfl
      case measure => simp [intOf]; all_goals omega
end Go.Proofs.YtklmnmkmpkobhaaGreat

