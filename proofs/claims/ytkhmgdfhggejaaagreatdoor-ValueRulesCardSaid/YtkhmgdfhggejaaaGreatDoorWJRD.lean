/-
  Contract of the reference's product; its sums and differences once more, over numbers.
-/
import Derived.Test.YtkhmgdfhggejaaaGreatDoorWJR
import Derived.Test.YtkhmgdfhggejaaaGreatDoorWHeld
import Derived.Deep.Cut
namespace Go.Proofs.YtkhmgdfhggejaaaGreatDoor
set_option linter.unusedSimpArgs false
set_option linter.unusedVariables false
open Go.RowKit
theorem rshift_n {w : World} {v : Value} {N k x : Nat} (hv : IsN w v N k) (hx : (x : Int) < 1000000000) (hk : k ≤ 100000000) :
 Calls Tryz.prog 68 #[v, .int .u32 (x : Int)] w (GivesN w (x + 1000000000 * N) (k + 1)) := by
 have h := rShift_any w v _ x hv.1 (M.limbs_small N) hx (Nat.le_trans hv.2 hk)
 rw [M.val_limbs] at h
 refine h.mono fun _ _ ⟨u, he, hn, hb⟩ => ⟨u, he, ⟨hn, M.limbs_length_le ?_⟩, hb⟩
 have := hv.len
 rw [Nat.pow_succ]; omega
theorem rsmall_n {w : World} {v : Value} {N k m : Nat} (hv : IsN w v N k) (hm : (m : Int) ≤ 1000000000) (hk : k ≤ 100000000) :
 Calls Tryz.prog 69 #[v, .int .u64 (m : Int)] w (GivesN w (N * m) (k + 2)) := by
 have h := rSmall_any w v _ m hv.1 (M.limbs_small N) hm (Nat.le_trans hv.2 hk)
 rw [M.val_limbs] at h
 exact h.mono fun _ _ ⟨u, he, hn, hb⟩ => ⟨u, he, ⟨hn, M.limbs_mul_length _ _ hv.len (show m < 1000000000 ^ 2 by omega)⟩, hb⟩
theorem radd_n {w : World} {u v : Value} {a b j k : Nat} (hu : IsN w u a j) (hv : IsN w v b k) (hj : j ≤ 100000000) (hk : k ≤ 100000000) :
 Calls Tryz.prog 43 #[u, v] w (GivesN w (a + b) (max j k + 1)) := by
 have h := rAdd_any w u v _ _ hu.1 hv.1 (Nat.le_trans hu.2 hj) (Nat.le_trans hv.2 hk)
 rw [M.nv_limbs, M.nv_limbs] at h
 exact h.mono fun _ _ ⟨x, he, hx, hb⟩ => ⟨x, he, ⟨hx, M.limbs_add_length _ _ hu.len hv.len⟩, hb⟩
theorem rsub_n {w : World} {u v : Value} {a b j k : Nat} (hu : IsN w u a j) (hv : IsN w v b k) (hj : j ≤ 100000000) :
 Calls Tryz.prog 44 #[u, v] w (GivesN w (a - b) j) := by
 have h := rSub_any w u v _ _ hu.1 hv.1 (Nat.le_trans hu.2 hj)
 rw [M.nv_limbs, M.nv_limbs] at h
 exact h.mono fun _ _ ⟨x, he, hx, hb⟩ => ⟨x, he, ⟨hx, M.limbs_length_le (Nat.lt_of_le_of_lt (Nat.sub_le _ _) hu.len)⟩, hb⟩
theorem rcmp_n {w : World} {u v : Value} {a b j k : Nat} (hu : IsN w u a j) (hv : IsN w v b k) {z : Int} (hz : M.cmp a b = z) :
 Calls Tryz.prog 37 #[u, v] w fun e w' => e = .returned (.int .i64 z) ∧ Ext w w' := by
 have h := rCmp_any w u v _ _ hu.1 hv.1
 rw [M.nv_limbs, M.nv_limbs, hz] at h
 exact h.mono fun _ _ ⟨he, k, hk⟩ => ⟨he, by subst hk; exact below_drewN (Below.refl _ _) k⟩
theorem rnat_n {w : World} {v : Value} {l : List Nat} {k : Nat} (hv : Num w w.heap.size v l) (hk : l.length ≤ k) :
 Calls Tryz.prog 64 #[v] w fun e w' => (∃ v', e = .returned v' ∧ IsN w v' (M.nv l) k) ∧ w = w' :=
 (rNat_any w v l hv).mono fun _ _ ⟨⟨v', he, hn⟩, hw⟩ => ⟨⟨v', he, by rw [M.limbs_nv]; exact hn, by rw [M.limbs_nv]; exact Nat.le_trans (M.nat_length l) hk⟩, hw⟩
def CellAt (w : World) (p : Addr) (v : Value) : Prop := w.cell? p = some v
theorem CellAt.up {w w' : World} {p : Addr} {v : Value} (h : CellAt w p v) (e : Ext w w') : CellAt w' p v := by
 have hl := World.block_lt_of_cell? w _ h
 unfold CellAt at *
 rw [← h]; exact Below.cell e hl
theorem M.mul_drop {A : Nat} {l : List Nat} {k x : Nat} (h : l[k]? = some x) : A * M.val (l.drop k) = (0 + 1000000000 * (A * M.val (l.drop (k + 1)))) + A * x := by
 rw [M.drop_at h, M.val, Nat.mul_add, Nat.mul_left_comm]; omega
theorem M.val_drop_le (l : List Nat) (k : Nat) : M.val (l.drop k) ≤ M.val l := by
 have := M.val_append (l.take k) (l.drop k)
 rw [List.take_append_drop] at this
 have h1 : M.val (l.drop k) ≤ 1000000000 ^ (l.take k).length * M.val (l.drop k) := Nat.le_mul_of_pos_left _ (Nat.pow_pos (by omega))
 omega
set_option maxHeartbeats 2000000 in
theorem rmul_n {w : World} {u v : Value} {l m : List Nat} {j q : Nat} (hu : Num w w.heap.size u l) (hv : Num w w.heap.size v m) (hl : l.length ≤ j) (hm : m.length ≤ q) (hj : Hid (j ≤ 1000000)) (hq : Hid (q ≤ 1000000)) :
 Calls Tryz.prog 45 #[u, v] w (GivesN w (M.nv l * M.nv m) (j + q)) := by
 have HU := hid hu
 have HV := hid hv
 have HL := hid hl
 have HM := hid hm
 clear hu hv hl hm
 go_enter Tryz.func45, Tryz.ntmps45
 go_wp2_with fail
 refine (rnat_n HU.out HL.out).mono ?_
 rintro e wq ⟨⟨u', rfl, x1⟩, rfl⟩
 have R := hid x1
 clear x1
 go_wp2_with fail
 refine (rnat_n HV.out HM.out).mono ?_
 rintro e wq ⟨⟨v', rfl, x1⟩, rfl⟩
 have R' := hid x1
 clear x1
 obtain ⟨A, n, c, rfl⟩ := R.out.1.slice
 obtain ⟨A', n', c', rfl⟩ := R'.out.1.slice
 obtain ⟨A2, n2, c2, e2, hn, hc, hmx, hs, hr⟩ := R'.out.1
 injection e2 with e2 e3 e4
 subst e2 e3 e4
 have hb : n' ≤ 9223372036854775807 := by unfold maxLen at hmx; omega
 have HR := hid hr
 have HN := hid hn
 have HS := hid (M.small_iff.1 (M.limbs_small (M.nv m)))
 have HB1 := hid R.out.len
 have HB2 := hid R'.out.len
 clear hr hn hs hmx hc HU HV HL HM
 go_wp2
 go_loopw [7, 8] (fun o i wr => ∃ (k : Nat) (z : Int) (Ao : Option Addr) (no co : Nat), k ≤ n' ∧ z = (k : Int) - 1 ∧ i = .int .i64 z ∧ o = .slice Ao no co ∧ IsN wr (.slice Ao no co) (M.nv l * M.val ((M.limbs (M.nv m)).drop k)) (j + q) ∧ Ext w wr) (fun _ i _ => (intOf i + 1).toNat)
 case atStart => exact ⟨n', _, none, 0, 0, Nat.le_refl _, rfl, rfl, rfl, by rw [List.drop_eq_nil_of_le (by rw [← HN.out]; exact Nat.le_refl _)]; exact ⟨by rw [M.val, Nat.mul_zero, M.limbs_zero]; exact Num.nil _ _, by rw [M.val, Nat.mul_zero, M.limbs_zero]; simp⟩, Ext.refl _⟩
 case round =>
  obtain ⟨k, z, Ao, no, co, hk, hz, rfl, rfl, ho, hext⟩ := hrel
  have RO := hid ho
  have E := hid hext
  clear ho hext
  rcases k with _ | k
  ·obtain rfl : z = -1 := by omega
   clear hz
   go_wp2
   go_ret
   refine ⟨_, rfl, ?_, E.out⟩
   have := RO.out
   rw [List.drop_zero, M.val_limbs] at this
   exact this
  ·obtain rfl : z = (k : Int) := by omega
   clear hz
   have hlt : k < n' := by omega
   obtain ⟨ad, x, rfl, _, HX, hcell⟩ := (HR.out.keep E.out.below E.out.size).get (k := k) (by rw [← HN.out]; exact hlt)
   have hx9 := HS.out x (List.mem_of_getElem? HX.out)
   have KC := hid (show CellAt wr (ad.add k) (.int .u32 (x : Int)) from hcell)
   have hk0 : (0 : Int) ≤ (k : Int) := by omega
   have hk1 : (k : Int) < (n' : Int) := by omega
   clear hcell
   have R := hid (R.out.up E.out)
   go_upto_region 6 with (fail)
   refine wp_region_D [(0, 0), (2, 0), (3, 0), (4, 0), (5, 0), (6, 0), (7, 0), (1, 1), (8, 1), (9, 1), (10, 0)] fun wd hb => ?_
   replace E := hid (E.out.trans hb)
   replace R := hid (R.out.up hb)
   replace RO := hid (RO.out.up hb)
   replace KC := hid (KC.out.up hb)
   clear hb
   refine WE.p 20 (.slice Ao no co) ?_
   refine WE.p 22 (.slice A n c) ?_
   refine WE.p 23 (.slice (some ad) n' c') ?_
   refine WE.p 24 (.int .i64 (k : Int)) ?_
   refine WE.p 25 (.pointer (some (ad.add k))) ?_
   refine WE.q 26 (.int .u32 (x : Int)) rfl (fun w' hk => by have c0 : w'.cell? (ad.add k) = some (.int .u32 (x : Int)) := KC.out.up hk; go_simp) ?_
   simp only [pX]
   refine WE.q 27 (.int .u64 (x : Int)) rfl (fun w' hk => by have q1 : IntKind.u64.wrap (x : Int) = (x : Int) := (by rw [IntKind.wrap_u64]; omega); go_simp) ?_
   simp only [pX]
   refine WE.call (d := some 21) rfl rfl (by rfl) (f := 68) (args := #[(.slice Ao no co), (.int .u32 (0))]) (by go_simp) ?_
   refine (rshift_n (x := 0) RO.out (by omega) (by have := hj.out; have := hq.out; omega)).mono ?_
   rintro e wn ⟨vx, rfl, hx, hb⟩
   obtain ⟨A1, n1, c1, rfl⟩ := hx.1.slice
   refine ⟨_, rfl, hb, ?_⟩
   replace E := hid (E.out.trans hb)
   replace R := hid (R.out.up hb)
   have R1 := hid hx
   clear hb hx
   simp only [pX]
   refine WE.call (d := some 28) rfl rfl (by rfl) (f := 69) (args := #[(.slice A n c), (.int .u64 (x : Int))]) (by go_simp) ?_
   refine (rsmall_n R.out (m := x) (by omega) (by have := hj.out; omega)).mono ?_
   rintro e wn ⟨vx, rfl, hx, hb⟩
   obtain ⟨A2, n2, c2, rfl⟩ := hx.1.slice
   refine ⟨_, rfl, hb, ?_⟩
   replace E := hid (E.out.trans hb)
   replace R1 := hid (R1.out.up hb)
   have R2 := hid hx
   clear hb hx
   simp only [pX]
   refine WE.call (d := some 29) rfl rfl (by rfl) (f := 43) (args := #[(.slice A1 n1 c1), (.slice A2 n2 c2)]) (by go_simp) ?_
   refine (radd_n R1.out R2.out (by have := hj.out; have := hq.out; omega) (by have := hj.out; omega)).mono ?_
   rintro e wn ⟨vx, rfl, hx, hb⟩
   obtain ⟨A3, n3, c3, rfl⟩ := hx.1.slice
   refine ⟨_, rfl, hb, ?_⟩
   replace E := hid (E.out.trans hb)
   have R3 := hid hx
   clear hb hx
   refine WE.p 7 (.slice A3 n3 c3) ?_
   simp only [pX]
   refine WE.done ?_
   go_wp2
   go_roundw
   case rel =>
    refine ⟨k, _, A3, n3, c3, by omega, rfl, by go_num, rfl, ?_, E.out⟩
    have e := M.mul_drop (A := M.nv l) HX.out
    refine ⟨by rw [e]; exact R3.out.1, M.limbs_length_le ?_⟩
    rw [Nat.pow_add]
    have h1 := M.val_drop_le (M.limbs (M.nv m)) k
    rw [M.val_limbs] at h1
    exact Nat.lt_of_le_of_lt (Nat.mul_le_mul_left _ h1) (Nat.mul_lt_mul'' HB1.out HB2.out)
   case measure => simp [intOf]; all_goals omega
theorem Num.away {w w' : World} {g : Nat} {A : Option Addr} {n c : Nat} {l : List Nat} (h : Num w w.heap.size (.slice A n c) l) (hg : ∀ ad, A = some ad → ad.block ≠ g) (hk : Kept [g] w w') : Num w' w'.heap.size (.slice A n c) l := by
 obtain ⟨A', n', c', e, hn, hc, hm, hs, hr⟩ := h
 injection e with e1 e2 e3
 subst e1 e2 e3
 refine ⟨A, n, c, rfl, hn, hc, hm, hs, fun hne => ?_⟩
 obtain ⟨ad, e, hlt, hcell⟩ := hr hne
 refine ⟨ad, e, Nat.lt_of_lt_of_le hlt hk.1.size, fun i x hx => ?_⟩
 rw [← hcell i x hx]
 exact World.cell?_of_block (by rw [addr_block]; exact hk.2 ad.block hlt (by simpa using hg ad e))
theorem IsN.away {w w' : World} {g : Nat} {A : Option Addr} {n c N k : Nat} (h : IsN w (.slice A n c) N k) (hg : ∀ ad, A = some ad → ad.block ≠ g) (hk : Kept [g] w w') : IsN w' (.slice A n c) N k := ⟨h.1.away hg hk, h.2⟩
theorem IsN.low {w : World} {A : Option Addr} {n c N k : Nat} (h : IsN w (.slice A n c) N k) (hN : N ≠ 0) : ∀ ad, A = some ad → ad.block < w.heap.size := by
 intro ad hA
 obtain ⟨A', n', c', e, _, _, _, _, hr⟩ := h.1
 injection e with e1
 subst e1
 obtain ⟨ad', e', hlt, _⟩ := hr (M.limbs_ne hN)
 rw [hA] at e'; injection e' with e'; subst e'; exact hlt
end Go.Proofs.YtkhmgdfhggejaaaGreatDoor
