/-
  A number's digits, told limb by limb from the lowest, in mathematics.
-/
import Derived.Test.YtgkofipifjfjhaaGreatDoorJTO
import Derived.Test.YtgkofipifjfjhaaGreatDoorJRZ
import Derived.Test.YtgkofipifjfjhaaGreatDoorJR
import Derived.Test.YtgkofipifjfjhaaGreatDoorJTN
namespace Go.Proofs.YtgkofipifjfjhaaGreatDoor
set_option linter.unusedSimpArgs false
set_option linter.unusedVariables false
open Go.RowKit
namespace M
open Go.Lib (decDigits nDigits)
theorem pad_add : ∀ (b a x y : Nat), y < 10 ^ b → pad (a + b) (x * 10 ^ b + y) = pad a x ++ pad b y
 | 0, a, x, y, h => by
  have : y = 0 := by simpa using h
  subst this; simp [pad]
 | b + 1, a, x, y, h => by
  rw [Nat.pow_succ] at h ⊢
  have e : x * (10 ^ b * 10) = (x * 10 ^ b) * 10 := by rw [Nat.mul_assoc]
  rw [e]
  show pad (a + b) ((x * 10 ^ b * 10 + y) / 10) ++ [UInt8.ofNat (48 + (x * 10 ^ b * 10 + y) % 10)] = _
  rw [show (x * 10 ^ b * 10 + y) / 10 = x * 10 ^ b + y / 10 by omega, pad_add b a x (y / 10) (by omega), show (x * 10 ^ b * 10 + y) % 10 = y % 10 by omega, pad, List.append_assoc]
/-- The inner rounds: k digits of the limb x are told; n is what is left. -/
def Inn (x : Nat) (last : Bool) (k n : Nat) (p : List UInt8) : Prop :=
 n = x / 10 ^ k ∧ k ≤ 9 ∧ (last = false ∨ 0 < n → p = pad k (x % 10 ^ k)) ∧ (last = true → n = 0 → p = decDigits x)
theorem Inn.start {x : Nat} {last : Bool} (h : last = true → 0 < x) : Inn x last 0 x [] :=
 ⟨by simp, by omega, fun _ => rfl, fun hl h0 => absurd h0 (by have := h hl; omega)⟩
theorem Inn.step {x : Nat} {last : Bool} {k n : Nat} {p : List UInt8} (h : Inn x last k n p) (hk : k < 9) (hc : last = false ∨ 0 < n) : Inn x last (k + 1) (n / 10) (UInt8.ofNat (48 + n % 10) :: p) := by
 obtain ⟨h1, h2, h3, h4⟩ := h
 have hp := h3 hc
 have hlt : x % 10 ^ k < 10 ^ k := Nat.mod_lt _ (Nat.pow_pos (by decide))
 have hx : x = n * 10 ^ k + x % 10 ^ k := by rw [h1]; have := Nat.div_add_mod x (10 ^ k); rw [Nat.mul_comm] at this; exact this.symm
 refine ⟨by rw [h1, Nat.div_div_eq_div_mul, Nat.pow_succ], by omega, fun _ => ?_, fun hl h0 => ?_⟩
 ·have e : x % 10 ^ (k + 1) = (n % 10) * 10 ^ k + x % 10 ^ k := by
   rw [Nat.mod_pow_succ, ← h1, Nat.mul_comm, Nat.add_comm]
  rw [e, Nat.add_comm k 1, pad_add k 1 (n % 10) _ hlt, hp]
  simp [pad]
 ·have hn : 0 < n := by
   rcases hc with hc | hc
   ·rw [hc] at hl; cases hl
   ·exact hc
  have hn10 : n < 10 := by omega
  rw [hp]
  conv => rhs; rw [hx]
  rw [dec_pad k n _ hn hlt, dec_small hn10, Nat.mod_eq_of_lt hn10]
  rfl
theorem Inn.mid {x k n : Nat} {p : List UInt8} (h : Inn x false k n p) (hk : k = 9) (hx : x < 1000000000) : p = pad 9 x := by
 subst hk
 rw [h.2.2.1 (.inl rfl), Nat.mod_eq_of_lt (by omega)]
theorem Inn.last {x k n : Nat} {p : List UInt8} (h : Inn x true k n p) (hk : k = 9 ∨ n = 0) (hx : x < 1000000000) : p = decDigits x := by
 obtain ⟨h1, h2, h3, h4⟩ := h
 refine h4 rfl ?_
 rcases hk with hk | hk
 ·subst hk; rw [h1]; exact Nat.div_eq_of_lt (by omega)
 ·exact hk
/-- The outer rounds: i limbs are told. -/
def Out (l : List Nat) (i : Nat) (t : List UInt8) : Prop := (i < l.length → t = pad (9 * i) (val (l.take i))) ∧ (i = l.length → t = decDigits (val l))
theorem Out.start {l : List Nat} (h : l ≠ []) : Out l 0 [] := ⟨fun _ => rfl, fun h0 => absurd (List.eq_nil_of_length_eq_zero h0.symm) h⟩
theorem Out.step {l : List Nat} (hs : small l = true) (hl : l.getLast? ≠ some 0) {i x : Nat} {t p : List UInt8} (hx : l[i]? = some x) (h : Out l i t) (hp : (i + 1 = l.length → p = decDigits x) ∧ (i + 1 < l.length → p = pad 9 x)) : Out l (i + 1) (p ++ t) := by
 obtain ⟨hlt, -⟩ := List.getElem?_eq_some_iff.1 hx
 have ht := h.1 hlt
 have hv := val_take hx
 have hb : val (l.take i) < 10 ^ (9 * i) := by
  have h1 := val_lt (l := l.take i) (small_take hs i)
  rw [List.length_take, Nat.min_eq_left (by omega)] at h1
  rw [Nat.pow_mul]; exact h1
 have he : 1000000000 ^ i * x = x * 10 ^ (9 * i) := by rw [Nat.pow_mul, Nat.mul_comm]
 rw [he] at hv
 have hv := hv.trans (Nat.add_comm _ _)
 refine ⟨fun h1 => ?_, fun h1 => ?_⟩
 ·rw [hv, ht, hp.2 h1, show 9 * (i + 1) = 9 + 9 * i by omega, pad_add (9 * i) 9 x _ hb]
 ·have hx0 : 0 < x := by
   rcases Nat.eq_zero_or_pos x with h0 | h0
   ·exfalso; apply hl
    rw [List.getLast?_eq_getElem?, show l.length - 1 = i by omega, hx, h0]
   ·exact h0
  rw [hp.1 h1, ht, ← dec_pad (9 * i) x _ hx0 hb, ← hv, List.take_of_length_le (by omega)]
end M
end Go.Proofs.YtgkofipifjfjhaaGreatDoor

/-
  What each law of layer 3 asks first.
-/
namespace Go.Proofs.YtgkofipifjfjhaaGreatDoor
open Go.RowKit
set_option linter.unusedSimpArgs false
set_option linter.unusedVariables false

theorem K.p1 : M.pval [40, 45, 32, 49, 48, 48, 48, 48, 48, 48, 48, 48, 53, 41] = -1000000005 ∧ M.perr [40, 45, 32, 49, 48, 48, 48, 48, 48, 48, 48, 48, 53, 41] = 0 := by decide +kernel
theorem K.p2 : M.pval [48, 55] = 0 ∧ M.perr [48, 55] = 10 := by decide +kernel
theorem K.t1 : M.print (-5) = [40, 45, 32, 53, 41] := by
 rw [M.print, if_pos (by decide), show (-5 : Int).natAbs = 5 from rfl, M.dec_small (by decide)]; rfl
theorem K.t2 : Go.Lib.decDigits (M.nv [7, 1]) = [49, 48, 48, 48, 48, 48, 48, 48, 48, 55] := by
 rw [show M.nv [7, 1] = 1 * 10 ^ 9 + 7 by decide +kernel, M.dec_pad 9 1 7 (by decide) (by decide), M.dec_small (by decide)]; decide +kernel
theorem K.t3 : M.print 0 = [48] := by
 rw [M.print, if_neg (by decide), show (0 : Int).natAbs = 0 from rfl, M.dec_small (by decide)]; rfl

end Go.Proofs.YtgkofipifjfjhaaGreatDoor

/-
  The reference's text of a row of limbs.
-/
namespace Go.Proofs.YtgkofipifjfjhaaGreatDoor
open Go.RowKit
set_option linter.unusedSimpArgs false
set_option linter.unusedVariables false
set_option maxRecDepth 100000 in
set_option maxHeartbeats 4000000 in
theorem rText_m {w : World} {v : Value} {l m : List Nat} (hv : Num w w.heap.size v l) (hm : m = M.nat l) (hsm : M.small m = true) (hlast : m.getLast? ≠ some 0) (hle : m.length ≤ 1000000) :
 Calls Tryz.prog 127 #[v] w (GivesT w (Lib.decDigits (M.val m))) := by
 have hcall : Calls Tryz.prog 135 #[v] w fun e w' => (∃ A n c, e = .returned (.slice A n c) ∧ Hid (n = m.length) ∧ Hid (Num w w.heap.size (.slice A n c) m)) ∧ w = w' := by
  refine (rNat_any w v l hv).mono ?_
  rintro e w' ⟨⟨v', rfl, h⟩, rfl⟩
  rw [← hm] at h
  have h0 := h
  obtain ⟨A, n, c, rfl, h1, -⟩ := h
  exact ⟨⟨A, n, c, rfl, h1, h0⟩, rfl⟩
 clear hv hm
 have HSM := hid hsm
 have HLA := hid hlast
 have HLE := hid hle
 clear hsm hlast hle
 go_enter Tryz.func127, Tryz.ntmps127
 go_upto_region 2 with (go_at_call 135; refine hcall.mono ?_; rintro e' w' ⟨⟨A, n, c, rfl, HN, HR⟩, rfl⟩)
 have hb : n ≤ 1000000 := by rw [HN.out]; exact HLE.out
 clear hcall
 by_cases h0 : n = 0
 ·have hm0 : m = [] := List.eq_nil_of_length_eq_zero (by rw [← HN.out]; exact h0)
  subst h0
  go_wp2
  go_ret
  exact ⟨by subst hm0; rw [show M.val [] = 0 from rfl, M.dec_small (by decide)]; rfl, Ext.refl _⟩
 ·have hmne : m ≠ [] := fun e => h0 (by rw [HN.out, e]; rfl)
  have HMNE := hid hmne
  clear hmne
  have h1 : 1 ≤ n := by omega
  have hz : ((n : Int) == 0) = false := by simp; omega
  go_wp2
  go_loopw [4, 5] (fun sv i wr => ∃ (j : Nat) (t : List UInt8), i = .int .i64 (j : Int) ∧ sv = str t ∧ Hid (M.Out m j t) ∧ j ≤ n ∧ t.length ≤ 9 * j ∧ Ext w wr) (fun _ i _ => n - (intOf i).toNat)
  case atStart => exact ⟨0, [], rfl, rfl, hid (M.Out.start HMNE.out), Nat.zero_le _, by simp, Ext.refl _⟩
  case round =>
   obtain ⟨j, t, rfl, rfl, HO, hj, htl, hx⟩ := hrel
   have E := hid hx
   have HTL := hid htl
   clear hx htl
   rcases Nat.lt_or_ge j n with hlt | hge
   ·have hrow : Row wr wr.heap.size A m := by
     obtain ⟨_, _, _, e, _, _, _, _, hr⟩ := HR.out.up E.out
     injection e with e1 _ _
     rw [e1]; exact hr
    obtain ⟨ad, x, rfl, hadb, HX, hcell⟩ := hrow.get (k := j) (by rw [← HN.out]; exact hlt)
    clear hrow
    have hx9 : x < 1000000000 := by have := List.all_eq_true.1 HSM.out x (List.mem_of_getElem? HX.out); simpa using this
    have hxp : j + 1 = n → 0 < x := fun h => by
     rcases Nat.eq_zero_or_pos x with h0 | h0
     ·exfalso; apply HLA.out
      rw [List.getLast?_eq_getElem?, ← HN.out, show n - 1 = j by omega, HX.out, h0]
     ·exact h0
    have HX9 := hid hx9
    have HXP := hid hxp
    clear hx9 hxp
    have hjj : ((n : Int) - 1) = ((n - 1 : Nat) : Int) := by omega
    obtain ⟨b, hb2⟩ : ∃ b : Bool, b = decide (j + 1 = n) := ⟨_, rfl⟩
    have HB := hid hb2
    clear hb2
    go_wp2
    go_loopw [4, 6, 7] (fun sv nv kv wr => ∃ (k y : Nat) (p : List UInt8), sv = str (p ++ t) ∧ nv = .int .u32 (y : Int) ∧ kv = .int .i64 (k : Int) ∧ Hid (M.Inn x b k y p) ∧ k ≤ 9 ∧ p.length ≤ k ∧ Ext w wr) (fun _ _ kv _ => 9 - (intOf kv).toNat)
    case atStart => exact ⟨0, x, [], rfl, rfl, rfl, hid (M.Inn.start (fun h => HXP.out (by have := HB.out; rw [h] at this; simpa using this.symm))), by omega, by simp, E.out⟩
    case round =>
     obtain ⟨k, y, p, rfl, rfl, rfl, HI, hk, hpl, hx2⟩ := hrel
     have E2 := hid hx2
     have HPL := hid hpl
     clear hx2 hpl
     have hy : y < 1000000000 := by rw [HI.out.1]; exact Nat.lt_of_le_of_lt (Nat.div_le_self _ _) HX9.out
     rcases (by omega : k = 9 ∨ k < 9) with hk9 | hk9
     ·have HP := hid (show (j + 1 = n → p = Lib.decDigits x) ∧ (j + 1 < n → p = M.pad 9 x) from ⟨fun h => by
       have hbt : b = true := by rw [HB.out]; simpa using h
       have h2 := HI.out
       rw [hbt] at h2; exact h2.last (.inl hk9) HX9.out, fun h => by
       have hbf : b = false := by rw [HB.out]; simp; omega
       have h2 := HI.out
       rw [hbf] at h2; exact h2.mid hk9 HX9.out⟩)
      have q0 : decide ((k : Int) < 9) = false := by simp; omega
      go_wp2
      go_roundw
      case rel => exact ⟨j + 1, p ++ t, by simp, rfl, hid (HO.out.step HSM.out HLA.out HX.out ⟨fun h => HP.out.1 (by rw [HN.out]; exact h), fun h => HP.out.2 (by rw [HN.out]; exact h)⟩), by omega, by have := HTL.out; have := HPL.out; simp; omega, E2.out⟩
      case measure => simp [intOf]; all_goals omega
     ·have HK9 := hid hk9
      have q0 : ((k : Int) < 9) := by omega
      clear hk9
      rcases (by omega : j + 1 < n ∨ (j + 1 = n ∧ 0 < y) ∨ (j + 1 = n ∧ y = 0)) with h | h | h
      ·have HC := hid (show b = false ∨ 0 < y from .inl (by rw [HB.out]; simp; omega))
       have c1 : decide (j < n - 1) = true := by simp; omega
       have c3 : j + 1 < n := by omega
       clear h
       obtain ⟨d, hd⟩ : ∃ d : Nat, d = 48 + y % 10 := ⟨_, rfl⟩
       have hd9 : d < 58 := by omega
       have q1 : (y : Int).tmod 10 = ((y % 10 : Nat) : Int) := by rw [Int.tmod_eq_emod_of_nonneg (by omega)]; rfl
       obtain ⟨f, hf⟩ : ∃ f : Nat, f = y % 10 := ⟨_, rfl⟩
       rw [← hf] at q1 hd
       have q2 : IntKind.u32.wrap (48 + (f : Int)) = (d : Int) := by rw [IntKind.wrap_u32]; omega
       have q3 : IntKind.u8.wrap (d : Int) = (d : Int) := by rw [IntKind.wrap_u8]; omega
       obtain ⟨z, hz2⟩ : ∃ z : Nat, z = y / 10 := ⟨_, rfl⟩
       have q4 : (y : Int).tdiv 10 = (z : Int) := by rw [Int.tdiv_eq_ediv_of_nonneg (by omega)]; omega
       have q5 : IntKind.u32.wrap (z : Int) = (z : Int) := by rw [IntKind.wrap_u32]; omega
       have hcv : ∀ w0 : World, (convert 52 9 (.slice (some ⟨w0.heap.size, 0, none⟩) 1 1)).run Tryz.prog (w0.alloc (.cells #[.int .u8 (d : Int)] 5)) = .ok (str [UInt8.ofNat d]) (w0.alloc (.cells #[.int .u8 (d : Int)] 5)) := fun w0 => byte_text d (by omega) _ _ _ (Box.new w0 _ _)
       have hle2 : ¬ 9223372036854775807 < 1 + (p.length + t.length) := by have := HPL.out; have := HTL.out; omega
       have hcat := str_cat [UInt8.ofNat d] (p ++ t)
       have HD := hid (show d = 48 + y % 10 by omega)
       have HZ := hid hz2
       have HY := hid hy
       clear hd hd9 hf hz2 hy
       go_wp2
       go_roundw
       case rel => exact ⟨k + 1, z, UInt8.ofNat d :: p, rfl, rfl, by simp, hid (by rw [HD.out, HZ.out]; exact HI.out.step HK9.out HC.out), by have := HK9.out; omega, by have := HPL.out; simp; omega, E2.out.alloc' _⟩
       case measure => simp [intOf]; have := HK9.out; all_goals omega
      ·have HC := hid (show b = false ∨ 0 < y from .inr h.2)
       have c1 : decide (j < n - 1) = false := by simp; omega
       have c3 : n ≤ j + 1 := by omega
       have c2 : 0 < y := h.2
       clear h
       obtain ⟨d, hd⟩ : ∃ d : Nat, d = 48 + y % 10 := ⟨_, rfl⟩
       have hd9 : d < 58 := by omega
       have q1 : (y : Int).tmod 10 = ((y % 10 : Nat) : Int) := by rw [Int.tmod_eq_emod_of_nonneg (by omega)]; rfl
       obtain ⟨f, hf⟩ : ∃ f : Nat, f = y % 10 := ⟨_, rfl⟩
       rw [← hf] at q1 hd
       have q2 : IntKind.u32.wrap (48 + (f : Int)) = (d : Int) := by rw [IntKind.wrap_u32]; omega
       have q3 : IntKind.u8.wrap (d : Int) = (d : Int) := by rw [IntKind.wrap_u8]; omega
       obtain ⟨z, hz2⟩ : ∃ z : Nat, z = y / 10 := ⟨_, rfl⟩
       have q4 : (y : Int).tdiv 10 = (z : Int) := by rw [Int.tdiv_eq_ediv_of_nonneg (by omega)]; omega
       have q5 : IntKind.u32.wrap (z : Int) = (z : Int) := by rw [IntKind.wrap_u32]; omega
       have hcv : ∀ w0 : World, (convert 52 9 (.slice (some ⟨w0.heap.size, 0, none⟩) 1 1)).run Tryz.prog (w0.alloc (.cells #[.int .u8 (d : Int)] 5)) = .ok (str [UInt8.ofNat d]) (w0.alloc (.cells #[.int .u8 (d : Int)] 5)) := fun w0 => byte_text d (by omega) _ _ _ (Box.new w0 _ _)
       have hle2 : ¬ 9223372036854775807 < 1 + (p.length + t.length) := by have := HPL.out; have := HTL.out; omega
       have hcat := str_cat [UInt8.ofNat d] (p ++ t)
       have HD := hid (show d = 48 + y % 10 by omega)
       have HZ := hid hz2
       have HY := hid hy
       clear hd hd9 hf hz2 hy
       go_wp2
       go_roundw
       case rel => exact ⟨k + 1, z, UInt8.ofNat d :: p, rfl, rfl, by simp, hid (by rw [HD.out, HZ.out]; exact HI.out.step HK9.out HC.out), by have := HK9.out; omega, by have := HPL.out; simp; omega, E2.out.alloc' _⟩
       case measure => simp [intOf]; have := HK9.out; all_goals omega
      ·have HP := hid (show (j + 1 = n → p = Lib.decDigits x) ∧ (j + 1 < n → p = M.pad 9 x) from ⟨fun _ => by
        have hbt : b = true := by rw [HB.out]; simpa using h.1
        have h2 := HI.out
        rw [hbt] at h2; exact h2.last (.inr h.2) HX9.out, fun h2 => by omega⟩)
       have c1 : decide (j < n - 1) = false := by simp; omega
       have c3 : n ≤ j + 1 := by omega
       have c2 : y = 0 := h.2
       clear h
       go_wp2
       go_roundw
       case rel => exact ⟨j + 1, p ++ t, by simp, rfl, hid (HO.out.step HSM.out HLA.out HX.out ⟨fun h => HP.out.1 (by rw [HN.out]; exact h), fun h => HP.out.2 (by rw [HN.out]; exact h)⟩), by omega, by have := HTL.out; have := HPL.out; simp; omega, E2.out⟩
       case measure => simp [intOf]; all_goals omega
   ·obtain rfl : j = n := by omega
    go_wp2
    go_ret
    exact ⟨by rw [HO.out.2 HN.out]; rfl, E.out⟩
end Go.Proofs.YtgkofipifjfjhaaGreatDoor

/-
  The reference's numerals.
-/
namespace Go.Proofs.YtgkofipifjfjhaaGreatDoor
open Go.RowKit
set_option linter.unusedSimpArgs false
set_option linter.unusedVariables false
namespace M
end M
end Go.Proofs.YtgkofipifjfjhaaGreatDoor

/-
  The reference's row of limbs of a numeral.
-/
namespace Go.Proofs.YtgkofipifjfjhaaGreatDoor
open Go.RowKit
set_option linter.unusedSimpArgs false
set_option linter.unusedVariables false
namespace M
/-- What the loop over the chunks keeps, whatever digit stands first. -/
def Ch (l : List UInt8) (zs : List Nat) (z : Int) : Prop := z = (l.length : Int) - 9 * (zs.length : Int) ∧ small zs = true ∧ val zs + 1000000000 ^ zs.length * num (l.take z.toNat) = num l
theorem Ch.start (l : List UInt8) {z : Int} (hz : z = (l.length : Int)) : Ch l [] z := by
 subst hz
 exact ⟨by simp, rfl, by simp [val]⟩
theorem Ch.step {l : List UInt8} (hd : l.all digit = true) {zs : List Nat} {e : Nat} (h : Ch l zs (e : Int)) (he : 0 < e) {x : Nat} (hx : x = num ((l.drop (e - 9)).take (e - (e - 9)))) :
 x < 1000000000 ∧ Ch l (zs ++ [x]) ((e : Int) - 9) := by
 obtain ⟨h1, h2, h3⟩ := h
 have hel : e ≤ l.length := by omega
 have hx9 : x < 1000000000 := by
  have h5 := num_lt (all_part hd (e - 9) (e - (e - 9)))
  rw [← hx] at h5
  refine Nat.lt_of_lt_of_le h5 (show _ ≤ 10 ^ 9 from Nat.pow_le_pow_right (by decide) ?_)
  rw [List.length_take]; omega
 refine ⟨hx9, by rw [List.length_append, List.length_singleton, h1]; omega, by rw [small_append]; exact ⟨h2, by simp [small]; omega⟩, ?_⟩
 have h5 := chunk hel he (V := val zs) (t := zs.length) (by rw [← h3]; simp)
 rw [← hx] at h5
 rw [val_snoc, List.length_append, List.length_singleton, show ((e : Int) - 9).toNat = e - 9 by omega]
 exact h5
theorem Ch.done {l : List UInt8} {zs : List Nat} {z : Int} (h : Ch l zs z) (hz : z ≤ 0) : val zs = num l := by
 obtain ⟨h1, h2, h3⟩ := h
 rw [show z.toNat = 0 by omega] at h3
 rw [← h3]; simp [num]
end M
end Go.Proofs.YtgkofipifjfjhaaGreatDoor

/-
  The reference's texts of integers.
-/
namespace Go.Proofs.YtgkofipifjfjhaaGreatDoor
open Go.RowKit
set_option linter.unusedSimpArgs false
set_option linter.unusedVariables false

theorem rText_any {w : World} {v : Value} {l : List Nat} (hv : Num w w.heap.size v l) (hle : l.length ≤ 1000000) : Calls Tryz.prog 127 #[v] w (GivesT w (Lib.decDigits (M.nv l))) := by
 have h1 := M.isNat_iff.1 (M.isNat_limbs (M.nv l))
 have h := rText_m (m := M.limbs (M.nv l)) hv (M.limbs_nv l) h1.1 h1.2 (by rw [M.limbs_nv]; unfold M.nat; split; exact hle; simp)
 rw [M.val_limbs] at h
 exact h
theorem rText_N {w : World} {v : Value} {N k : Nat} (hv : IsN w v N k) (hk : k ≤ 1000000) : Calls Tryz.prog 127 #[v] w (GivesT w (Lib.decDigits N)) := by
 have h := rText_any hv.1 (Nat.le_trans hv.2 hk)
 rw [M.nv_limbs] at h
 exact h
set_option maxHeartbeats 1000000 in
theorem rPrint_neg {w : World} {u : Value} {Z : Int} {j : Nat} (hu : Worth w u Z j) (hj : j ≤ 1000000) (hz : decide (Z < 0) = true) :
 Calls Tryz.prog 75 #[u] w (GivesT w (M.print Z)) := by
 obtain ⟨g, A, n, c, rfl⟩ := hu.shape
 have R := hid hu
 have HJ := hid hj
 have HZ := hid hz
 clear hu hj hz
 go_enter Tryz.func75, Tryz.ntmps75
 go_upto_region 1 with (fail)
 have E := hid ((Ext.refl w).alloc' (.cells #[.bool g, .slice A n c] 30))
 have B1 : Hid (Box (w.alloc (.cells #[.bool g, .slice A n c] 30)) (w.heap.size) #[.bool g, .slice A n c] 30) := hid (Box.at_ (w := w) #[.bool g, .slice A n c] 30 (by simp))
 replace R := hid (R.out.up E.out)
 refine wp_region_T [(0, 0), (1, 1), (2, 1), (3, 4)] (by kernel_rfl) fun wd hb => ?_
 replace E := hid (E.out.trans hb)
 replace B1 := hid (B1.out.up hb)
 replace R := hid (R.out.up hb)
 clear hb
 refine WE.pure (d := some 4) rfl rfl (by rfl) (v := (.agg #[.bool g, .slice A n c])) (fun w' hk => ?_) ?_
 ·have c0 := hk.cell (B1.out.cell (o := 0) (v := .bool g) rfl); have c1 := hk.cell (B1.out.cell (o := 1) (v := .slice A n c) rfl); go_simp
 simp only [Act.put, pA, pB, pC]
 refine WE.call (d := some 5) rfl rfl (by rfl) (f := 76) (args := #[(.agg #[.bool g, .slice A n c])]) (by go_simp) ?_
 refine (rMay_w R.out).mono ?_
 rintro e wn ⟨vx, rfl, hx, hb⟩
 obtain ⟨g1, A1, n1, c1, rfl, hs1, hr1⟩ := hx.form
 clear hx
 refine ⟨_, rfl, hb, ?_⟩
 replace E := hid (E.out.trans hb)
 have HS1 := hid hs1
 have R1 := hid hr1
 clear hb hs1 hr1
 simp only [Act.put, pA, pB, pC]
 refine WE.new (d := some 3) (cs := #[.bool false, .slice none 0 0]) (t := 30) (v := fun g => (.pointer (some ⟨g, 0, none⟩))) rfl rfl (by rfl) (fun w => by go_simp) fun gB2 wv hx0 hbox hge => ?_
 have HGB2 := hid (show w.heap.size ≤ gB2 by have := E.out.size; omega)
 replace E := hid (E.out.trans hx0)
 replace R1 := hid (R1.out.up hx0)
 have B2 : Hid (Box wv gB2 #[.bool false, .slice none 0 0] 30) := hid hbox
 clear hx0 hbox hge
 simp only [Act.put, pA, pB, pC]
 refine WE.store2 (g := gB2) (x := .bool g1) (y := .slice A1 n1 c1) (t := 30) rfl rfl (by rfl) (fun w hb => ?_) B2.out (by rfl) fun ws hk hs => ?_
 ·have c0 := hb.cell (o := 0) (v := .bool false) rfl; have f0 := hb.free 0; have c1 := hb.cell (o := 1) (v := .slice none 0 0) rfl; have f1 := hb.free 1; go_simp
 intro hbx
 replace E := hid (E.out.keptG hk HGB2.out)
 replace B2 := hid hbx
 replace R1 := hid (R1.out.kz hs)
 clear hk hs hbx
 refine WE.done ?_
 go_upto_region 2 with (fail)
 refine wp_region_T [(0, 0), (1, 0)] (by kernel_rfl) fun wd hb => ?_
 replace E := hid (E.out.trans hb)
 replace B2 := hid (B2.out.up hb)
 replace R1 := hid (R1.out.up hb)
 clear hb
 refine WE.pure (d := some 6) rfl rfl (by rfl) (v := (.pointer (some ⟨gB2, 0, none⟩))) (fun w' hk => ?_) ?_
 ·go_simp
 simp only [Act.put, pA, pB, pC]
 refine WE.pure (d := some 7) rfl rfl (by rfl) (v := (.bool true)) (fun w' hk => ?_) ?_
 ·have c0 := hk.cell (B2.out.cell (o := 0) (v := .bool g1) rfl); have q : g1 = true := (by rw [HS1.out]; exact HZ.out); go_simp
 simp only [Act.put, pA, pB, pC]
 refine WE.done ?_
 have HLN := hid (show (Lib.decDigits Z.natAbs).length ≤ 9 * j + 1 by rw [M.dec_length]; have h4 := M.dec_room (M.limbs Z.natAbs); rw [M.nv_limbs] at h4; exact Nat.le_trans h4 (by have : (M.limbs Z.natAbs).length ≤ j := R1.out.2; omega))
 go_upto_region 3 with (fail)
 refine wp_region_T [(0, 0), (1, 0), (2, 1), (3, 0), (4, 0), (5, 0)] (by kernel_rfl) fun wd hb => ?_
 replace E := hid (E.out.trans hb)
 replace B2 := hid (B2.out.up hb)
 replace R1 := hid (R1.out.up hb)
 clear hb
 refine WE.pure (d := some 8) rfl rfl (by rfl) (v := (.pointer (some ⟨gB2, 1, none⟩))) (fun w' hk => ?_) ?_
 ·go_simp
 simp only [Act.put, pA, pB, pC]
 refine WE.pure (d := some 9) rfl rfl (by rfl) (v := (.slice A1 n1 c1)) (fun w' hk => ?_) ?_
 ·have c1 := hk.cell (B2.out.cell (o := 1) (v := .slice A1 n1 c1) rfl); go_simp
 simp only [Act.put, pA, pB, pC]
 refine WE.call (d := some 10) rfl rfl (by rfl) (f := 127) (args := #[(.slice A1 n1 c1)]) (by go_simp) ?_
 refine (rText_N R1.out HJ.out).mono ?_
 rintro e wn ⟨rfl, hb⟩
 refine ⟨_, rfl, hb, ?_⟩
 replace E := hid (E.out.trans hb)
 clear hb
 simp only [Act.put, pA, pB, pC]
 refine WE.pure (d := some 11) rfl rfl (by rfl) (v := str (40 :: 45 :: 32 :: Lib.decDigits Z.natAbs)) (fun w' hk => ?_) ?_
 ·go_simp
  rw [if_neg (by have := HLN.out; have := HJ.out; omega)]
  exact congrArg (fun x => Result.ok (Next.value (Value.string x)) w') (str_cat [40, 45, 32] (Lib.decDigits Z.natAbs))
 simp only [Act.put, pA, pB, pC]
 refine WE.pure (d := some 12) rfl rfl (by rfl) (v := str (40 :: 45 :: 32 :: (Lib.decDigits Z.natAbs ++ [41]))) (fun w' hk => ?_) ?_
 ·go_simp
  rw [if_neg (by have := HLN.out; have := HJ.out; omega)]
  exact congrArg (fun x => Result.ok (Next.value (Value.string x)) w') (str_cat (40 :: 45 :: 32 :: Lib.decDigits Z.natAbs) [41])
 simp only [Act.put, pA, pB, pC]
 refine WE.pure (d := some 2) rfl rfl (by rfl) (v := (str (40 :: 45 :: 32 :: (Lib.decDigits Z.natAbs ++ [41])))) (fun w' hk => ?_) ?_
 ·go_simp
 simp only [Act.put, pA, pB, pC]
 refine WE.done ?_
 go_wp2
 go_ret
 refine ⟨?_, E.out⟩
 rw [M.print, if_pos (of_decide_eq_true HZ.out)]; rfl

set_option maxHeartbeats 1000000 in
theorem rPrint_pos {w : World} {u : Value} {Z : Int} {j : Nat} (hu : Worth w u Z j) (hj : j ≤ 1000000) (hz : decide (Z < 0) = false) :
 Calls Tryz.prog 75 #[u] w (GivesT w (M.print Z)) := by
 obtain ⟨g, A, n, c, rfl⟩ := hu.shape
 have R := hid hu
 have HJ := hid hj
 have HZ := hid hz
 clear hu hj hz
 go_enter Tryz.func75, Tryz.ntmps75
 go_upto_region 1 with (fail)
 have E := hid ((Ext.refl w).alloc' (.cells #[.bool g, .slice A n c] 30))
 have B1 : Hid (Box (w.alloc (.cells #[.bool g, .slice A n c] 30)) (w.heap.size) #[.bool g, .slice A n c] 30) := hid (Box.at_ (w := w) #[.bool g, .slice A n c] 30 (by simp))
 replace R := hid (R.out.up E.out)
 refine wp_region_T [(0, 0), (1, 1), (2, 1), (3, 4)] (by kernel_rfl) fun wd hb => ?_
 replace E := hid (E.out.trans hb)
 replace B1 := hid (B1.out.up hb)
 replace R := hid (R.out.up hb)
 clear hb
 refine WE.pure (d := some 4) rfl rfl (by rfl) (v := (.agg #[.bool g, .slice A n c])) (fun w' hk => ?_) ?_
 ·have c0 := hk.cell (B1.out.cell (o := 0) (v := .bool g) rfl); have c1 := hk.cell (B1.out.cell (o := 1) (v := .slice A n c) rfl); go_simp
 simp only [Act.put, pA, pB, pC]
 refine WE.call (d := some 5) rfl rfl (by rfl) (f := 76) (args := #[(.agg #[.bool g, .slice A n c])]) (by go_simp) ?_
 refine (rMay_w R.out).mono ?_
 rintro e wn ⟨vx, rfl, hx, hb⟩
 obtain ⟨g1, A1, n1, c1, rfl, hs1, hr1⟩ := hx.form
 clear hx
 refine ⟨_, rfl, hb, ?_⟩
 replace E := hid (E.out.trans hb)
 have HS1 := hid hs1
 have R1 := hid hr1
 clear hb hs1 hr1
 simp only [Act.put, pA, pB, pC]
 refine WE.new (d := some 3) (cs := #[.bool false, .slice none 0 0]) (t := 30) (v := fun g => (.pointer (some ⟨g, 0, none⟩))) rfl rfl (by rfl) (fun w => by go_simp) fun gB2 wv hx0 hbox hge => ?_
 have HGB2 := hid (show w.heap.size ≤ gB2 by have := E.out.size; omega)
 replace E := hid (E.out.trans hx0)
 replace R1 := hid (R1.out.up hx0)
 have B2 : Hid (Box wv gB2 #[.bool false, .slice none 0 0] 30) := hid hbox
 clear hx0 hbox hge
 simp only [Act.put, pA, pB, pC]
 refine WE.store2 (g := gB2) (x := .bool g1) (y := .slice A1 n1 c1) (t := 30) rfl rfl (by rfl) (fun w hb => ?_) B2.out (by rfl) fun ws hk hs => ?_
 ·have c0 := hb.cell (o := 0) (v := .bool false) rfl; have f0 := hb.free 0; have c1 := hb.cell (o := 1) (v := .slice none 0 0) rfl; have f1 := hb.free 1; go_simp
 intro hbx
 replace E := hid (E.out.keptG hk HGB2.out)
 replace B2 := hid hbx
 replace R1 := hid (R1.out.kz hs)
 clear hk hs hbx
 refine WE.done ?_
 go_upto_region 2 with (fail)
 refine wp_region_T [(0, 0), (1, 0)] (by kernel_rfl) fun wd hb => ?_
 replace E := hid (E.out.trans hb)
 replace B2 := hid (B2.out.up hb)
 replace R1 := hid (R1.out.up hb)
 clear hb
 refine WE.pure (d := some 6) rfl rfl (by rfl) (v := (.pointer (some ⟨gB2, 0, none⟩))) (fun w' hk => ?_) ?_
 ·go_simp
 simp only [Act.put, pA, pB, pC]
 refine WE.pure (d := some 7) rfl rfl (by rfl) (v := (.bool false)) (fun w' hk => ?_) ?_
 ·have c0 := hk.cell (B2.out.cell (o := 0) (v := .bool g1) rfl); have q : g1 = false := (by rw [HS1.out]; exact HZ.out); go_simp
 simp only [Act.put, pA, pB, pC]
 refine WE.done ?_
 go_upto_region 4 with (fail)
 refine wp_region_T [(0, 0), (1, 0), (2, 1), (3, 0)] (by kernel_rfl) fun wd hb => ?_
 replace E := hid (E.out.trans hb)
 replace B2 := hid (B2.out.up hb)
 replace R1 := hid (R1.out.up hb)
 clear hb
 refine WE.pure (d := some 13) rfl rfl (by rfl) (v := (.pointer (some ⟨gB2, 1, none⟩))) (fun w' hk => ?_) ?_
 ·go_simp
 simp only [Act.put, pA, pB, pC]
 refine WE.pure (d := some 14) rfl rfl (by rfl) (v := (.slice A1 n1 c1)) (fun w' hk => ?_) ?_
 ·have c1 := hk.cell (B2.out.cell (o := 1) (v := .slice A1 n1 c1) rfl); go_simp
 simp only [Act.put, pA, pB, pC]
 refine WE.call (d := some 15) rfl rfl (by rfl) (f := 127) (args := #[(.slice A1 n1 c1)]) (by go_simp) ?_
 refine (rText_N R1.out HJ.out).mono ?_
 rintro e wn ⟨rfl, hb⟩
 refine ⟨_, rfl, hb, ?_⟩
 replace E := hid (E.out.trans hb)
 clear hb
 simp only [Act.put, pA, pB, pC]
 refine WE.pure (d := some 2) rfl rfl (by rfl) (v := (str (Lib.decDigits Z.natAbs))) (fun w' hk => ?_) ?_
 ·go_simp
 simp only [Act.put, pA, pB, pC]
 refine WE.done ?_
 go_wp2
 go_ret
 refine ⟨?_, E.out⟩
 rw [M.print, if_neg (of_decide_eq_false HZ.out)]; rfl

theorem rPrint_w {w : World} {u : Value} {Z : Int} {j : Nat} (hu : Worth w u Z j) (hj : j ≤ 1000000) : Calls Tryz.prog 75 #[u] w (GivesT w (M.print Z)) := by
 cases hz : decide (Z < 0)
 ·exact rPrint_pos hu hj hz
 ·exact rPrint_neg hu hj hz

end Go.Proofs.YtgkofipifjfjhaaGreatDoor

