/-
  Contracts of package gcd's inner functions over rows of limbs: word, sharedWord, left.
-/
import Derived.Test.YtklmnmkmpkobhaaGreatZInner
import Derived.Test.YtklmnmkmpkobhaaGreatHeld
import Derived.Deep.LoopGhost
import Derived.Test.YtklmnmkmpkobhaaGreatJRD
import Derived.Test.YtklmnmkmpkobhaaGreatJZ
import Derived.Test.YtklmnmkmpkobhaaGreatZFaceA
namespace Go.Proofs.YtklmnmkmpkobhaaGreat
open Go.RowKit
set_option linter.unusedSimpArgs false
set_option linter.unusedVariables false

namespace M
theorem word_step {n n' : Int} {l : List Nat} {k x : Nat} (hn : n = IntKind.u64.wrap (val (l.drop (k + 1)) : Int)) (hx : l[k]? = some x) (h' : n' = IntKind.u64.wrap (IntKind.u64.wrap (n * 1000000000) + IntKind.u64.wrap (x : Int))) : n' = IntKind.u64.wrap (val (l.drop k) : Int) := by
 subst hn h'
 have e : val (l.drop k) = x + 1000000000 * val (l.drop (k + 1)) := by rw [drop_at hx]; rfl
 rw [e, IntKind.wrap_u64, IntKind.wrap_u64, IntKind.wrap_u64, IntKind.wrap_u64, IntKind.wrap_u64]
 omega
theorem gcd_step (a b : Nat) : Nat.gcd b (a % b) = Nat.gcd a b := by
 rw [Nat.gcd_comm b, ← Nat.gcd_rec, Nat.gcd_comm]
theorem gcd_le_max (a b : Nat) : Nat.gcd a b ≤ max a b := by
 rcases Nat.eq_zero_or_pos a with rfl | h
 ·simp
 ·have := Nat.gcd_le_left b h
  omega
end M

theorem word_n {w : World} {v : Value} {N k : Nat} (hv : IsN w v N k) (hk : k ≤ 2) :
 Calls Tryz.prog 142 #[v] w (fun e w' => e = .returned (.int .u64 (N : Int)) ∧ Ext w w') := by
 obtain ⟨A1, n1, c1, rfl⟩ := hv.1.slice
 have HL := hid (show N < 1000000000000000000 by
  have h1 := hv.len
  have h2 : (1000000000 : Nat) ^ k ≤ 1000000000 ^ 2 := Nat.pow_le_pow_right (by omega) hk
  rw [show (1000000000 : Nat) ^ 2 = 1000000000000000000 from rfl] at h2
  omega)
 obtain ⟨A2, n2, c2, e2, hn, hc, hmx, hs, hr⟩ := hv.1
 injection e2 with e2 e3 e4
 subst e2 e3 e4
 have hb1 : n1 ≤ 9223372036854775807 := by unfold maxLen at hmx; omega
 have HR := hid hr
 have HN := hid hn
 clear hr hn hs hmx hc hv
 go_enter Tryz.func142, Tryz.ntmps142
 go_wp2
 go_loop [3, 4] (fun x i => ∃ (k : Nat) (z a : Int), k ≤ n1 ∧ z = (k : Int) - 1 ∧ i = .int .i64 z ∧ x = .int .u64 a ∧ a = IntKind.u64.wrap (M.val ((M.limbs N).drop k) : Int)) (fun _ i => (intOf i + 1).toNat)
 case atStart => exact ⟨n1, _, _, Nat.le_refl _, rfl, rfl, rfl, by rw [List.drop_eq_nil_of_le (by rw [← HN.out]; exact Nat.le_refl _)]; rfl⟩
 case round =>
  obtain ⟨k, z, a, hk, hz, rfl, rfl, ha⟩ := hrel
  have HA := hid ha
  clear ha
  rcases k with _ | k
  ·obtain rfl : z = -1 := by omega
   clear hz
   have HA2 := hid (show a = (N : Int) from HA.out.trans (by rw [List.drop_zero, M.val_limbs, IntKind.wrap_u64]; have := HL.out; omega))
   go_wp2
   go_ret
   exact ⟨by rw [HA2.out]; rfl, Ext.refl _⟩
  ·obtain rfl : z = (k : Int) := by omega
   clear hz
   have hlt : k < n1 := by omega
   obtain ⟨ad, x, rfl, _, HX, hcell⟩ := HR.out.get (k := k) (by rw [← HN.out]; exact hlt)
   go_wp2
   go_round
   case rel => exact ⟨k, _, _, by omega, rfl, rfl, rfl, M.word_step HA.out HX.out rfl⟩
   case measure => simp [intOf]; all_goals omega

theorem sharedWord_n {w : World} {a b : Nat} (ha : (a : Int) ≤ 18446744073709551615) (hb : (b : Int) ≤ 18446744073709551615) :
 Calls Tryz.prog 141 #[.int .u64 (a : Int), .int .u64 (b : Int)] w (fun e w' => e = .returned (.int .u64 (Nat.gcd a b : Nat)) ∧ Ext w w') := by
 have HA := hid ha
 have HB := hid hb
 clear ha hb
 go_enter Tryz.func141, Tryz.ntmps141
 go_wp2
 go_loopw [0, 1] (fun u v wr => ∃ (x y : Nat), u = .int .u64 (x : Int) ∧ v = .int .u64 (y : Int) ∧ Hid ((x : Int) ≤ 18446744073709551615) ∧ Hid ((y : Int) ≤ 18446744073709551615) ∧ Hid (Nat.gcd x y = Nat.gcd a b) ∧ Ext w wr) (fun _ v _ => (intOf v).toNat)
 case atStart => exact ⟨a, b, rfl, rfl, HA, HB, rfl, Ext.refl _⟩
 case round =>
  obtain ⟨x, y, rfl, rfl, HX, HY, HG, hext⟩ := hrel
  have E := hid hext
  clear hext
  by_cases h0 : y = 0
  ·subst h0
   go_wp2
   go_ret
   exact ⟨by rw [← HG.out, Nat.gcd_zero_right]; rfl, E.out⟩
  ·have hy : decide ((0 : Int) < (y : Int)) = true := decide_eq_true (by omega)
   have hy0 : ¬ (y : Int) = 0 := by omega
   obtain ⟨r, hr⟩ : ∃ r : Nat, r = x % y := ⟨_, rfl⟩
   have hq : (x : Int).tmod (y : Int) = (r : Int) := by
    rw [hr]; exact (Int.ofNat_tmod x y).symm
   have hlt : r < y := by rw [hr]; exact Nat.mod_lt _ (by omega)
   have hw : IntKind.u64.wrap (r : Int) = (r : Int) := by
    have h1 := HY.out
    rw [IntKind.wrap_u64]; omega
   have HM := hid (show (r : Int) ≤ 18446744073709551615 by
    have h1 := HY.out
    omega)
   have HGR := hid (show Nat.gcd y r = Nat.gcd a b by rw [hr]; exact (M.gcd_step x y).trans HG.out)
   have HLT := hid hlt
   clear hr hlt
   go_upto_region 2 with (fail)
   refine wp_region_D [(0, 0), (1, 0), (2, 0), (3, 0), (4, 0), (5, 0)] fun wd hb => ?_
   replace E := hid (E.out.trans hb)
   clear hb
   refine WE.p 7 (.int .u64 (y : Int)) ?_
   refine WE.p 8 (.int .u64 (x : Int)) ?_
   refine WE.p 9 (.int .u64 (y : Int)) ?_
   refine WE.p 10 (.int .u64 (r : Int)) ?_
   refine WE.p 0 (.int .u64 (y : Int)) ?_
   refine WE.p 1 (.int .u64 (r : Int)) ?_
   simp only [Act.put, pA, pB, pC]
   refine WE.done ?_
   go_wp2
   go_roundw
   case rel => exact ⟨y, r, rfl, rfl, HY, HM, HGR, E.out⟩
   case measure => simp [intOf]; have := HLT.out; omega

theorem left_n {w : World} {u v : Value} {a b j k : Nat} (hu : IsN w u a j) (hv : IsN w v b k) (hj : j ≤ 1000000) :
 Calls Tryz.prog 140 #[u, v] w (GivesN w (a % b) j) := by
 have R := hid hu
 have R' := hid hv
 clear hu hv
 go_enter Tryz.func140, Tryz.ntmps140
 go_wp2_with fail
 refine (div_N R.out R'.out hj).mono ?_
 rintro e wn ⟨x, y, rfl, hx, hy, hb⟩
 obtain ⟨A1, n1, c1, rfl⟩ := hx.1.slice
 obtain ⟨A2, n2, c2, rfl⟩ := hy.1.slice
 have E := hid hb
 have RY := hid hy
 clear hx hy hb
 go_wp2
 go_ret
 exact ⟨_, rfl, RY.out, E.out⟩
end Go.Proofs.YtklmnmkmpkobhaaGreat

/-
  Contract of package gcd's shared: what two rows of limbs have in common.
-/
namespace Go.Proofs.YtklmnmkmpkobhaaGreat
open Go.RowKit
set_option linter.unusedSimpArgs false
set_option linter.unusedVariables false

theorem IsN.short {w : World} {v : Value} {N k j : Nat} (h : IsN w v N k) (hN : N < 1000000000 ^ j) : IsN w v N j := ⟨h.1, M.limbs_length_le hN⟩
theorem IsN.count {w : World} {A : Option Addr} {n c N k : Nat} (h : IsN w (.slice A n c) N k) : n = (M.limbs N).length ∧ n ≤ 9223372036854775807 := by
 obtain ⟨A', n', c', e, hn, hc, hm, _⟩ := h.1
 injection e with _ e2 e3
 unfold maxLen at hm
 exact ⟨by omega, by omega⟩

set_option maxHeartbeats 1000000 in
theorem shared_n {w : World} {u v : Value} {a b j : Nat} (hu : IsN w u a j) (hv : IsN w v b j) (hj : j ≤ 1000000) :
 Calls Tryz.prog 120 #[u, v] w (GivesN w (Nat.gcd a b) j) := by
 obtain ⟨A, n, c, rfl⟩ := hu.1.slice
 obtain ⟨A', n', c', rfl⟩ := hv.1.slice
 have R := hid hu
 have R' := hid hv
 have HJ := hid hj
 have HG := hid (show Nat.gcd a b < 1000000000 ^ j by
  have h1 := hu.len
  have h2 := hv.len
  have h3 := M.gcd_le_max a b
  omega)
 clear hu hv hj
 go_enter Tryz.func120, Tryz.ntmps120
 go_wp2
 go_loopg [0, 1] (b) (fun y u v wr => ∃ (x : Nat) (A : Option Addr) (n c : Nat) (A' : Option Addr) (n' c' : Nat), u = .slice A n c ∧ v = .slice A' n' c' ∧ Hid (IsN wr (.slice A n c) x j) ∧ Hid (IsN wr (.slice A' n' c') y j) ∧ Hid (Nat.gcd x y = Nat.gcd a b) ∧ Ext w wr)
 case atStart => exact ⟨a, A, n, c, A', n', c', rfl, rfl, R, R', rfl, Ext.refl _⟩
 case round =>
  clear R R'
  obtain ⟨x, A, n, c, A', n', c', rfl, rfl, R, R', HX, hext⟩ := hrel
  have E := hid hext
  clear hext
  have HC := hid R'.out.count
  by_cases h2 : n' ≤ 2
  ·have h2' : decide (2 < (n' : Int)) = false := by simp; omega
   have HK := hid (show (M.limbs gk).length ≤ 2 by have := HC.out; omega)
   by_cases h0 : n' = 0
   ·subst h0
    have HY := hid (show gk = 0 by
     have h1 := HC.out.1
     exact M.limbs_eq_nil.1 (List.eq_nil_of_length_eq_zero h1.symm))
    go_wp2
    go_ret
    refine ⟨_, rfl, ?_, E.out⟩
    have h1 := HX.out
    rw [HY.out, Nat.gcd_zero_right] at h1
    rw [← h1]
    exact R.out
   ·have h0' : ¬ (n' : Int) = 0 := by omega
    go_wp2_with fail
    refine (word_n (k := 2) (N := gk) ⟨R'.out.1, HK.out⟩ (by omega)).mono ?_
    rintro e wn ⟨rfl, hb⟩
    have E1 := hid (E.out.trans hb)
    have Q := hid (R.out.up hb)
    have Q' := hid (R'.out.up hb)
    clear hb
    go_wp2_with fail
    refine (left_n Q.out Q'.out HJ.out).mono ?_
    rintro e wn ⟨vx, rfl, hx, hb⟩
    obtain ⟨A2, n2, c2, rfl⟩ := hx.1.slice
    have E2 := hid (E1.out.trans hb)
    have HP := hid (show 0 < gk by
     rcases Nat.eq_zero_or_pos gk with e | e
     ·exfalso; apply h0
      rw [HC.out.1, e, M.limbs_zero]; rfl
     ·exact e)
    have HB := hid (show gk < 1000000000 ^ 2 from Nat.lt_of_lt_of_le (M.limbs_len_lt gk) (Nat.pow_le_pow_right (by omega) HK.out))
    have RX := hid (hx.short (j := 2) (Nat.lt_trans (Nat.mod_lt x HP.out) HB.out))
    clear hx hb
    go_wp2_with fail
    refine (word_n RX.out (by omega)).mono ?_
    rintro e wn ⟨rfl, hb⟩
    have E3 := hid (E2.out.trans hb)
    clear hb
    go_wp2_with fail
    refine (sharedWord_n (a := gk) (b := x % gk) (by have := HB.out; rw [show (1000000000 : Nat) ^ 2 = 1000000000000000000 from rfl] at this; omega) (by have := HB.out; have := Nat.mod_lt x HP.out; rw [show (1000000000 : Nat) ^ 2 = 1000000000000000000 from rfl] at *; omega)).mono ?_
    rintro e wn ⟨rfl, hb⟩
    have E4 := hid (E3.out.trans hb)
    clear hb
    go_wp2_with fail
    refine (of_n (Nat.gcd gk (x % gk)) (by have h1 := Nat.gcd_le_left (x % gk) HP.out; have := HB.out; rw [show (1000000000 : Nat) ^ 2 = 1000000000000000000 from rfl] at this; omega) _).mono ?_
    rintro e wn ⟨vx, rfl, hx, hb⟩
    obtain ⟨A3, n3, c3, rfl⟩ := hx.1.slice
    have E5 := hid (E4.out.trans hb)
    have RG := hid hx
    clear hx hb
    go_wp2
    go_ret
    refine ⟨_, rfl, ?_, E5.out⟩
    have h1 := RG.out
    rw [M.gcd_step, HX.out] at h1
    exact h1.short HG.out
  ·have h2' : decide (2 < (n' : Int)) = true := by simp; omega
   have HP := hid (show 0 < gk by
    rcases Nat.eq_zero_or_pos gk with e | e
    ·exfalso; apply h2
     rw [HC.out.1, e, M.limbs_zero]; simp
    ·exact e)
   go_wp2_with fail
   refine (left_n R.out R'.out HJ.out).mono ?_
   rintro e wn ⟨vx, rfl, hx, hb⟩
   obtain ⟨A2, n2, c2, rfl⟩ := hx.1.slice
   have E2 := hid (E.out.trans hb)
   have RX := hid hx
   have Q' := hid (R'.out.up hb)
   clear hx hb
   go_wp2
   go_roundg (x % gk)
   case measure => exact Nat.mod_lt _ HP.out
   case rel => exact ⟨gk, A', n', c', A2, n2, c2, rfl, rfl, Q', RX, (M.gcd_step x gk).trans HX.out, E2.out⟩
end Go.Proofs.YtklmnmkmpkobhaaGreat

/-
  Lists of integers in memory.
-/
namespace Go.Proofs.YtklmnmkmpkobhaaGreat
open Go.RowKit
set_option linter.unusedSimpArgs false
set_option linter.unusedVariables false

/-- The cells of the integer at place k of a list. -/
def ZAt (w : World) (ad : Addr) (k : Nat) (x : Bool × List Nat) : Prop :=
 ∃ A n c, w.cell? (ad.add (k * 2)) = some (.bool x.1) ∧ w.cell? ((ad.add (k * 2)).add 1) = some (.slice A n c) ∧ Num w w.heap.size (.slice A n c) x.2
/-- A list of api.Int in memory: what each of them holds. -/
def ZList (w : World) (v : Value) (ls : List (Bool × List Nat)) : Prop :=
 ∃ A n c, v = .slice A n c ∧ n = ls.length ∧ n ≤ c ∧ c ≤ maxLen ∧ ∀ k x, ls[k]? = some x → ∃ ad, A = some ad ∧ ad.block < w.heap.size ∧ ZAt w ad k x
theorem ZAt.up {w w' : World} {ad : Addr} {k : Nat} {x : Bool × List Nat} (h : ZAt w ad k x) (e : Ext w w') (hb : ad.block < w.heap.size) : ZAt w' ad k x := by
 obtain ⟨A, n, c, h1, h2, h3⟩ := h
 exact ⟨A, n, c, by rw [e.below.cell (by rw [addr_block]; exact hb)]; exact h1, by rw [e.below.cell (by rw [addr_block, addr_block]; exact hb)]; exact h2, h3.up e⟩
theorem ZList.up {w w' : World} {v : Value} {ls : List (Bool × List Nat)} (h : ZList w v ls) (e : Ext w w') : ZList w' v ls := by
 obtain ⟨A, n, c, h1, h2, h3, h4, h5⟩ := h
 refine ⟨A, n, c, h1, h2, h3, h4, fun k x hx => ?_⟩
 obtain ⟨ad, ha, hb, hz⟩ := h5 k x hx
 exact ⟨ad, ha, Nat.lt_of_lt_of_le hb e.size, hz.up e hb⟩
theorem ZList.shape {w : World} {v : Value} {ls : List (Bool × List Nat)} (h : ZList w v ls) : ∃ A n c, v = .slice A n c := by
 obtain ⟨A, n, c, h, _⟩ := h; exact ⟨A, n, c, h⟩
theorem ZList.count {w : World} {A : Option Addr} {n c : Nat} {ls : List (Bool × List Nat)} (h : ZList w (.slice A n c) ls) : n = ls.length ∧ n ≤ c ∧ n ≤ 9223372036854775807 := by
 obtain ⟨A', n', c', e, hn, hc, hm, _⟩ := h
 injection e with e1 e2 e3
 unfold maxLen at hm
 exact ⟨by omega, by omega, by omega⟩
theorem ZList.get {w : World} {A : Option Addr} {n c : Nat} {ls : List (Bool × List Nat)} (h : ZList w (.slice A n c) ls) {k : Nat} {x : Bool × List Nat} (hk : ls[k]? = some x) :
 ∃ ad A' n' c', A = some ad ∧ CellAt w (ad.add (k * 2)) (.bool x.1) ∧ CellAt w ((ad.add (k * 2)).add 1) (.slice A' n' c') ∧ Num w w.heap.size (.slice A' n' c') x.2 := by
 obtain ⟨A', n', c', e, hn, hc, hm, hz⟩ := h
 injection e with e1 e2 e3
 subst e1
 obtain ⟨ad, ha, _, B, p, q, h1, h2, h3⟩ := hz k x hk
 exact ⟨ad, B, p, q, ha, h1, h2, h3⟩
theorem ZList.nil (w : World) (c : Nat) (hc : c ≤ maxLen) (A : Option Addr) : ZList w (.slice A 0 c) [] := ⟨A, 0, c, rfl, rfl, Nat.zero_le _, hc, fun k x hx => by simp at hx⟩

namespace M
/-- What divides all: as package gcd goes along. -/
def gl (ls : List (Bool × List Nat)) : Nat := ls.foldl (fun d x => Nat.gcd (zv x.1 x.2).natAbs d) 0
theorem gl_nil : gl [] = 0 := rfl
theorem gl_snoc (ls : List (Bool × List Nat)) (x : Bool × List Nat) : gl (ls ++ [x]) = Nat.gcd (zv x.1 x.2).natAbs (gl ls) := by unfold gl; rw [List.foldl_append]; rfl
theorem gl_take {ls : List (Bool × List Nat)} {k : Nat} {x : Bool × List Nat} (h : ls[k]? = some x) : gl (ls.take (k + 1)) = Nat.gcd (zv x.1 x.2).natAbs (gl (ls.take k)) := by
 obtain ⟨hk, rfl⟩ := List.getElem?_eq_some_iff.1 h
 rw [List.take_succ_eq_append_getElem hk, gl_snoc]
end M
end Go.Proofs.YtklmnmkmpkobhaaGreat

/-
  Contract of package gcd's common: what all of a list have in common.
-/
namespace Go.Proofs.YtklmnmkmpkobhaaGreat
open Go.RowKit
set_option linter.unusedSimpArgs false
set_option linter.unusedVariables false

set_option maxHeartbeats 1000000 in
theorem common_w {w : World} {v : Value} {ls : List (Bool × List Nat)} {K : Nat} (hl : ZList w v ls) (hs : ∀ x ∈ ls, x.2.length ≤ K) (hK : K ≤ 1000000) :
 Calls Tryz.prog 98 #[v] w (GivesZ w (M.gl ls : Int) K) := by
 obtain ⟨A, n, c, rfl⟩ := hl.shape
 have HL := hid hl
 have HC := hid hl.count
 have HS := hid hs
 have HK := hid hK
 have hb9 : n ≤ 9223372036854775807 := hl.count.2.2
 clear hl hs hK
 go_enter Tryz.func98, Tryz.ntmps98
 go_upto_region 1 with (fail)
 obtain ⟨E, B1⟩ := open1 w #[.bool false, .slice none 0 0] 25
 replace HL := hid (HL.out.up E.out)
 go_wp2
 go_loopw [3, 8] (fun d i wr => ∃ (k : Nat) (A2 : Option Addr) (n2 c2 : Nat), k ≤ n ∧ i = .int .i64 (k : Int) ∧ d = .slice A2 n2 c2 ∧ Hid (IsN wr (.slice A2 n2 c2) (M.gl (ls.take k)) K) ∧ Ext w wr ∧ Box wr (w.heap.size) #[.bool false, .slice none 0 0] 25 ∧ ZList wr (.slice A n c) ls) (fun _ i _ => n - (intOf i).toNat)
 case atStart => exact ⟨0, none, 0, 0, Nat.zero_le _, rfl, rfl, ⟨by rw [List.take_zero, M.gl_nil, M.limbs_zero]; exact Num.nil _ _, by rw [List.take_zero, M.gl_nil, M.limbs_zero]; simp⟩, E.out, B1.out, HL.out⟩
 case round =>
  clear E B1 HL
  obtain ⟨k, A2, n2, c2, hk, rfl, rfl, RD, hext, hbx, hll⟩ := hrel
  have E := hid hext
  have B1 := hid hbx
  have HL := hid hll
  clear hext hbx hll
  by_cases hlt : k < n
  ·have hlt' : decide ((k : Int) < (n : Int)) = true := decide_eq_true (by omega)
   obtain ⟨x, hx⟩ : ∃ x, ls[k]? = some x := ⟨_, List.getElem?_eq_getElem (by rw [← HC.out.1]; exact hlt)⟩
   obtain ⟨ad, A3, n3, c3, rfl, k0, k1, hm⟩ := HL.out.get hx
   obtain ⟨gx, lx⟩ := x
   have HX := hid hx
   have KA := hid k0
   have KB := hid k1
   have RX := hid (show Worth wr (.agg #[.bool gx, .slice A3 n3 c3]) (M.zv gx lx) K from ⟨gx, A3, n3, c3, lx, rfl, hm, HS.out _ (List.mem_of_getElem? hx), rfl⟩)
   have EW := hid (Ext.refl wr)
   clear hx k0 k1 hm
   go_upto_region 4 with (fail)
   refine wp_region_S [(0, 0), (1, 0), (2, 1), (3, 4)] fun wd hb => ?_
   replace EW := hid (EW.out.trans hb)
   replace B1 := hid (B1.out.up hb)
   replace KA := hid (KA.out.up hb)
   replace KB := hid (KB.out.up hb)
   replace RX := hid (RX.out.up hb)
   replace RD := hid (RD.out.up hb)
   clear hb
   refine WE.p 10 ((.pointer (some (ad.add (k * 2))))) ?_
   refine WE.q 11 (.agg #[.bool gx, .slice A3 n3 c3]) rfl (fun w' hk => by have c0 : w'.cell? (ad.add (k * 2)) = some (.bool gx) := KA.out.up hk; have c1 : w'.cell? ⟨(ad.add (k * 2)).block, (ad.add (k * 2)).off + 1, none⟩ = some (.slice A3 n3 c3) := KB.out.up hk; go_simp) ?_
   simp only [Act.put, pA, pB, pC]
   clear KA KB
   refine WE.new (d := some 5) (cs := #[.bool false, .slice none 0 0]) (t := 25) (v := fun g => (.pointer (some ⟨g, 0, none⟩))) rfl rfl (by rfl) (fun w => by go_simp) fun gC1 wv hx0 hbox hge => ?_
   have HNC1B1 := hid (show gC1 ≠ (w.heap.size) by have := B1.out.lt; omega)
   have HGC1 := hid (show wr.heap.size ≤ gC1 by have := EW.out.size; omega)
   replace EW := hid (EW.out.trans hx0)
   replace B1 := hid (B1.out.up hx0)
   replace RX := hid (RX.out.up hx0)
   replace RD := hid (RD.out.up hx0)
   have C1 : Hid (Box wv gC1 #[.bool false, .slice none 0 0] 25) := hid hbox
   clear hx0 hbox hge
   simp only [Act.put, pA, pB, pC]
   refine WE.store2 (g := gC1) (x := .bool gx) (y := .slice A3 n3 c3) (t := 25) rfl rfl (by rfl) (fun w hb => ?_) C1.out (by rfl) fun ws hk hs => ?_
   ·have c0 := hb.k 0; have f0 := hb.free 0; have c1 := hb.k 1; have f1 := hb.free 1; go_simp
   intro hbx
   replace EW := hid (EW.out.keptG hk HGC1.out)
   replace B1 := hid (B1.out.kept hk (by simpa using HNC1B1.out.symm))
   replace C1 := hid hbx
   replace RX := hid (RX.out.kz hs)
   replace RD := hid (RD.out.kz hs)
   clear hk hs hbx
   refine WE.done ?_
   go_upto_region 5 with (fail)
   refine wp_region_S [(0, 0), (1, 1), (2, 0), (3, 0), (4, 1), (5, 0)] fun wd hb => ?_
   replace EW := hid (EW.out.trans hb)
   replace B1 := hid (B1.out.up hb)
   replace C1 := hid (C1.out.up hb)
   replace RX := hid (RX.out.up hb)
   replace RD := hid (RD.out.up hb)
   clear hb
   refine WE.q 12 (.agg #[.bool gx, .slice A3 n3 c3]) rfl (fun w' hk => by have c0 := (C1.out.up hk).k 0; have c1 := (C1.out.up hk).k 1; go_simp) ?_
   refine WE.call (d := some 13) rfl rfl (by rfl) (f := 121) (args := #[(.agg #[.bool gx, .slice A3 n3 c3])]) (by go_simp) ?_
   refine (abs_w RX.out (by have := HK.out; omega)).mono ?_
   rintro e wn ⟨vx, rfl, hx, hb⟩
   obtain ⟨g4, A4, n4, c4, rfl, hs4, hr4⟩ := hx.form
   clear hx
   refine ⟨_, rfl, hb, ?_⟩
   replace EW := hid (EW.out.trans hb)
   replace B1 := hid (B1.out.up hb)
   replace RD := hid (RD.out.up hb)
   have R4 := hid hr4
   clear hb hs4 hr4
   refine WE.q 14 (.slice A4 n4 c4) rfl (fun w' hk => by have hf : ∀ w, (Instr.field 25 (.agg #[.bool g4, .slice A4 n4 c4]) 1).run Tryz.prog w = .ok (.slice A4 n4 c4) w := (fun w => by kernel_rfl); go_simp) ?_
   refine WE.p 15 (.slice A2 n2 c2) ?_
   refine WE.call (d := some 16) rfl rfl (by rfl) (f := 120) (args := #[(.slice A4 n4 c4), (.slice A2 n2 c2)]) (by go_simp) ?_
   refine (shared_n (a := (M.zv gx lx).natAbs) R4.out RD.out HK.out).mono ?_
   rintro e wn ⟨vx, rfl, hx, hb⟩
   obtain ⟨A5, n5, c5, rfl⟩ := hx.1.slice
   refine ⟨_, rfl, hb, ?_⟩
   replace EW := hid (EW.out.trans hb)
   replace B1 := hid (B1.out.up hb)
   replace RD := hid (RD.out.up hb)
   have R5 := hid hx
   clear hb hx
   refine WE.p 3 (.slice A5 n5 c5) ?_
   simp only [Act.put, pA, pB, pC]
   refine WE.done ?_
   go_wp2
   go_roundw
   case rel => exact ⟨k + 1, A5, n5, c5, by omega, by go_num, rfl, by rw [M.gl_take HX.out]; exact R5, E.out.trans EW.out, B1.out, HL.out.up EW.out⟩
   case measure => simp [intOf]; all_goals omega
  ·obtain rfl : k = n := by omega
   have hlt' : decide ((k : Int) < (k : Int)) = false := by simp
   go_upto_region 7 with (fail)
   refine wp_region_S [(0, 0), (1, 0), (2, 4)] fun wd hb => ?_
   replace E := hid (E.out.trans hb)
   replace B1 := hid (B1.out.up hb)
   replace RD := hid (RD.out.up hb)
   clear hb
   refine WE.p 18 (.slice A2 n2 c2) ?_
   refine WE.p 19 (.agg #[.bool false, .slice A2 n2 c2]) ?_
   simp only [Act.put, pA, pB, pC]
   refine WE.store2 (g := (w.heap.size)) (x := .bool false) (y := .slice A2 n2 c2) (t := 25) rfl rfl (by rfl) (fun w hb => ?_) B1.out (by rfl) fun ws hk hs => ?_
   ·have c0 := hb.k 0; have f0 := hb.free 0; have c1 := hb.k 1; have f1 := hb.free 1; go_simp
   intro hbx
   replace E := hid (E.out.keptG hk (by simp))
   replace B1 := hid hbx
   replace RD := hid (RD.out.kz hs)
   clear hk hs hbx
   refine WE.done ?_
   have r0 := B1.out.cell (o := 0) (v := .bool false) rfl
   have r1 := B1.out.cell (o := 1) (v := .slice A2 n2 c2) rfl
   go_wp2
   exact bodyPost_ret (v := .agg #[.bool false, .slice A2 n2 c2]) (by simp [results, Tryz.results98, go_sem, r0, r1]) rfl ⟨_, rfl, IsZ.mk (by simp; done) (by rw [Int.natAbs_natCast]; have h1 := RD.out; rw [List.take_of_length_le (by rw [HC.out.1]; exact Nat.le_refl _)] at h1; exact h1), E.out⟩

end Go.Proofs.YtklmnmkmpkobhaaGreat

