/-
  Contracts of package term: names in order; where a name stands in a list of names.
-/
import Derived.Test.YtaoboilkpgphaaaDoorKTMake
import Derived.Test.YtaoboilkpgphaaaDoorKNamesB
namespace Go.Proofs.YtaoboilkpgphaaaDoor.Q
set_option linter.unusedSimpArgs false
set_option linter.unusedVariables false
open Go.RowKit

namespace M
theorem less_irrefl : ∀ (a : List UInt8), Go.Op.bytesLess a a = false
 | [] => rfl
 | x :: r => by
  have h : (x < x) = False := by simp
  simp [Go.Op.bytesLess, less_irrefl r]
theorem less_trans : ∀ {a b c : List UInt8}, Go.Op.bytesLess a b = true → Go.Op.bytesLess b c = true → Go.Op.bytesLess a c = true
 | _, [], _, h, _ => by simp [Go.Op.bytesLess] at h
 | _, _ :: _, [], _, h => by simp [Go.Op.bytesLess] at h
 | [], _ :: _, _ :: _, _, _ => rfl
 | x :: a, y :: b, z :: c, h1, h2 => by
  simp only [Go.Op.bytesLess, Bool.or_eq_true, Bool.and_eq_true, decide_eq_true_eq, beq_iff_eq] at h1 h2 ⊢
  rcases h1 with h1 | ⟨h1, h3⟩
  ·rcases h2 with h2 | ⟨h2, h4⟩
   ·exact .inl (UInt8.lt_trans h1 h2)
   ·subst h2; exact .inl h1
  ·subst h1
   rcases h2 with h2 | ⟨h2, h4⟩
   ·exact .inl h2
   ·exact .inr ⟨h2, less_trans h3 h4⟩
theorem less_tri : ∀ {a b : List UInt8}, Go.Op.bytesLess a b = false → a ≠ b → Go.Op.bytesLess b a = true
 | [], [], _, h => absurd rfl h
 | [], _ :: _, h, _ => by simp [Go.Op.bytesLess] at h
 | _ :: _, [], _, _ => rfl
 | x :: a, y :: b, h1, h2 => by
  simp only [Go.Op.bytesLess, Bool.or_eq_false_iff, decide_eq_false_iff_not, Bool.and_eq_false_imp, beq_iff_eq] at h1
  simp only [Go.Op.bytesLess, Bool.or_eq_true, Bool.and_eq_true, decide_eq_true_eq, beq_iff_eq]
  by_cases hxy : x = y
  ·subst hxy
   exact .inr ⟨rfl, less_tri (h1.2 rfl) (fun e => h2 (by rw [e]))⟩
  ·have h3 : ¬ x.toNat < y.toNat := fun h => h1.1 (UInt8.lt_iff_toNat_lt.2 h)
   have h4 : x.toNat ≠ y.toNat := fun h => hxy (UInt8.toNat_inj.1 h)
   exact .inl (UInt8.lt_iff_toNat_lt.2 (by omega))
theorem cmpB_lt : ∀ (a b : List UInt8), decide (Lib.compareBytes a b < 0) = Go.Op.bytesLess a b
 | [], [] => rfl
 | [], _ :: _ => rfl
 | _ :: _, [] => rfl
 | x :: a, y :: b => by
  unfold Lib.compareBytes Go.Op.bytesLess
  by_cases h : x < y
  ·simp [h]
  ·by_cases h2 : y < x
   ·have h3 : (x == y) = false := by
     rw [beq_eq_false_iff_ne]
     rintro rfl
     exact absurd h2 (by simp)
    simp [h, h2, h3]
   ·have h3 : x = y := by
     have h4 : ¬ x.toNat < y.toNat := fun h' => h (UInt8.lt_iff_toNat_lt.2 h')
     have h5 : ¬ y.toNat < x.toNat := fun h' => h2 (UInt8.lt_iff_toNat_lt.2 h')
     exact UInt8.toNat_inj.1 (by omega)
    subst h3
    simp only [h, if_false]
    rw [cmpB_lt a b]; simp
theorem cmpB_eq : ∀ (a b : List UInt8), decide (Lib.compareBytes a b = 0) = decide (a = b)
 | [], [] => rfl
 | [], _ :: _ => by simp [Lib.compareBytes]
 | _ :: _, [] => by simp [Lib.compareBytes]
 | x :: a, y :: b => by
  unfold Lib.compareBytes
  by_cases h : x < y
  ·have : x ≠ y := by rintro rfl; exact absurd h (by simp)
   simp [h, this]
  ·by_cases h2 : y < x
   ·have : x ≠ y := by rintro rfl; exact absurd h2 (by simp)
    simp [h, h2, this]
   ·have h3 : x = y := by
     have h4 : ¬ x.toNat < y.toNat := fun h' => h (UInt8.lt_iff_toNat_lt.2 h')
     have h5 : ¬ y.toNat < x.toNat := fun h' => h2 (UInt8.lt_iff_toNat_lt.2 h')
     exact UInt8.toNat_inj.1 (by omega)
    subst h3
    simp only [h, if_false]
    rw [cmpB_eq a b]; simp
/-- Names rise. -/
def kAsc (l : List Sg) : Prop := ∀ (i j : Nat) (x y : Sg), i < j → l[i]? = some x → l[j]? = some y → Go.Op.bytesLess x.name y.name = true
theorem kAsc_nil : kAsc [] := fun i j x y _ h => by simp at h
theorem kPre_upto {nm : List UInt8} {l : List Sg} {m : Nat} {x : Sg} (ha : kAsc l) (hx : l[m]? = some x) (hb : Go.Op.bytesLess x.name nm = true) : kPre nm l (m + 1) := by
 intro j y hj hy
 rcases Nat.lt_or_ge j m with h | h
 ·exact less_trans (ha j m y x h hy hx) hb
 ·obtain rfl : j = m := by omega
  rw [hx] at hy; injection hy with hy; subst hy; exact hb
/-- From a place on no name is ahead. -/
def kPost (nm : List UInt8) (l : List Sg) (k : Nat) : Prop := ∀ (j : Nat) (x : Sg), k ≤ j → l[j]? = some x → Go.Op.bytesLess x.name nm = false
theorem kPost_from {nm : List UInt8} {l : List Sg} {m : Nat} {x : Sg} (ha : kAsc l) (hx : l[m]? = some x) (hb : Go.Op.bytesLess x.name nm = false) : kPost nm l m := by
 intro j y hj hy
 rcases Nat.eq_or_lt_of_le hj with h | h
 ·subst h; rw [hx] at hy; injection hy with hy; subst hy; exact hb
 ·rcases hq : Go.Op.bytesLess y.name nm with _ | _
  ·rfl
  ·rw [less_trans (ha m j x y h hx hy) hq] at hb; cases hb
theorem kAsc_put {l : List Sg} {s : Sg} {k : Nat} (ha : kAsc l) (hp : kPre s.name l k) (hk : k ≤ l.length) (hq : k = l.length ∨ ∃ x, l[k]? = some x ∧ Go.Op.bytesLess x.name s.name = false ∧ x.name ≠ s.name) : kAsc (l.take k ++ [s] ++ l.drop k) := by
 have h1 : (l.take k).length = k := by rw [List.length_take]; omega
 have get : ∀ i x, (l.take k ++ [s] ++ l.drop k)[i]? = some x → (i < k ∧ l[i]? = some x) ∨ (i = k ∧ x = s) ∨ (k < i ∧ l[i - 1]? = some x) := by
  intro i x hx
  rcases Nat.lt_trichotomy i k with h | h | h
  ·rw [List.append_assoc, List.getElem?_append_left (by omega), List.getElem?_take, if_pos h] at hx
   exact .inl ⟨h, hx⟩
  ·subst h
   rw [List.append_assoc, List.getElem?_append_right (by omega), h1] at hx
   simp at hx
   exact .inr (.inl ⟨rfl, hx.symm⟩)
  ·rw [List.getElem?_append_right (by simp; omega), List.getElem?_drop] at hx
   refine .inr (.inr ⟨h, ?_⟩)
   rw [List.length_append, h1] at hx
   simp at hx
   rwa [show k + (i - (k + 1)) = i - 1 by omega] at hx
 have hgt : ∀ j y, k ≤ j → l[j]? = some y → Go.Op.bytesLess s.name y.name = true := by
  intro j y hj hy
  have hjl := (List.getElem?_eq_some_iff.1 hy).1
  rcases hq with hq | ⟨x, hx, hb, hne⟩
  ·omega
  ·have h2 := less_tri hb hne
   rcases Nat.eq_or_lt_of_le hj with h | h
   ·subst h; rw [hx] at hy; injection hy with hy; subst hy; exact h2
   ·exact less_trans h2 (ha k j x y h hx hy)
 intro i j x y hij hx hy
 rcases get i x hx with ⟨a1, a2⟩ | ⟨a1, a2⟩ | ⟨a1, a2⟩ <;> rcases get j y hy with ⟨b1, b2⟩ | ⟨b1, b2⟩ | ⟨b1, b2⟩
 ·exact ha i j x y hij a2 b2
 ·subst b2; exact hp i x a1 a2
 ·exact ha i (j - 1) x y (by omega) a2 b2
 ·omega
 ·omega
 ·subst a2; exact hgt (j - 1) y (by omega) b2
 ·omega
 ·omega
 ·exact ha (i - 1) (j - 1) x y (by omega) a2 b2
end M
abbrev byNameFun : Value := .func (.func 87) #[] #[]
theorem byName_n {a b : List UInt8} {A A' : Option Addr} {n c n' c' : Nat} {r r' : Int} {w : World} {z : Int} (hz : Lib.compareBytes a b = z) : Calls Tryd.prog 87 #[sgv a A n c r, sgv b A' n' c' r'] w (fun e w' => e = .returned (.int .i64 z) ∧ Ext w w') := by
 have HC := hid (fun w' => show Calls Tryd.prog 96 #[str a, str b] w' (fun e w'' => e = .returned (.int .i64 z) ∧ w'' = w') from by
  have := Tryd.strings_Compare ⟨a.toArray⟩ ⟨b.toArray⟩ w'
  rw [show (⟨a.toArray⟩ : ByteArray).data.toList = a from rfl, show (⟨b.toArray⟩ : ByteArray).data.toList = b from rfl, hz] at this
  exact this)
 clear hz
 go_enter Tryd.func87, Tryd.ntmps87
 go_wp2_with fail
 refine (HC.out _).mono ?_
 rintro e w' ⟨rfl, rfl⟩
 go_wp2
 go_ret
 exact ⟨rfl, (Ext.alloc w _).alloc' _⟩
set_option maxHeartbeats 4000000 in
theorem sameSig_t {s s' : M.Sg} {v v' : Value} {w : World} (h : IsSg w s v) (h' : IsSg w s' v') : Calls Tryd.prog 88 #[v, v'] w (GivesB w (M.ksameS s s')) := by
 obtain ⟨nm, ag, rt⟩ := s
 obtain ⟨nm', ag', rt'⟩ := s'
 obtain ⟨A, c, rfl, hi⟩ := h
 obtain ⟨A', c', rfl, hi'⟩ := h'
 replace hi : Ints w ag (.slice A ag.length c) := hi
 replace hi' : Ints w ag' (.slice A' ag'.length c') := hi'
 show Calls Tryd.prog 88 #[sgv nm A ag.length c rt, sgv nm' A' ag'.length c' rt'] w _
 have HE := hid (show ∀ w', Ext w w' → Calls Tryd.prog 52 #[.slice A ag.length c, .slice A' ag'.length c'] w' (GivesB w' (decide (ag = ag'))) from fun w' e => equalI_n (hi.up e) (hi'.up e))
 have hz : M.ksameS ⟨nm, ag, rt⟩ ⟨nm', ag', rt'⟩ = (decide (nm = nm') && (decide (ag = ag') && decide (rt = rt'))) := by
  unfold M.ksameS
  rw [Bool.eq_iff_iff]
  simp
 rw [hz]
 obtain ⟨n, hn⟩ : ∃ n, ag.length = n := ⟨_, rfl⟩
 obtain ⟨n', hn'⟩ : ∃ n, ag'.length = n := ⟨_, rfl⟩
 obtain ⟨q, hq⟩ : ∃ q, decide (ag = ag') = q := ⟨_, rfl⟩
 rw [hn, hn', hq] at HE
 rw [hn, hn', hq]
 have HB1 := hid (show Box ((w.alloc (.cells #[str nm, .slice A n c, .int .i64 rt] 53)).alloc (.cells #[str nm', .slice A' n' c', .int .i64 rt'] 53)) w.heap.size #[str nm, .slice A n c, .int .i64 rt] 53 from (Box.new w _ _).alloc _)
 have HB2 := hid (show Box ((w.alloc (.cells #[str nm, .slice A n c, .int .i64 rt] 53)).alloc (.cells #[str nm', .slice A' n' c', .int .i64 rt'] 53)) (w.heap.size + 1) #[str nm', .slice A' n' c', .int .i64 rt'] 53 from Box.at_ (w := w.alloc (.cells #[str nm, .slice A n c, .int .i64 rt] 53)) _ _ (by simp))
 clear hi hi' hz hn hn' hq
 by_cases h1 : nm = nm'
 case neg =>
  rw [decide_eq_false h1, Bool.false_and]
  go_enter Tryd.func88, Tryd.ntmps88
  go_wp2
  go_ret
  exact ⟨rfl, alloc_two w _ _⟩
 case pos =>
 subst h1
 rw [decide_eq_true rfl, Bool.true_and]
 cases q
 ·rw [Bool.false_and]
  go_enter Tryd.func88, Tryd.ntmps88
  go_wp2_with fail
  refine (HE.out _ (alloc_two w _ _)).mono ?_
  rintro e w1 ⟨rfl, hb⟩
  go_wp2
  go_ret
  exact ⟨rfl, (alloc_two w _ _).trans hb⟩
 ·rw [Bool.true_and]
  obtain ⟨q, hq⟩ : ∃ q, decide (rt = rt') = q := ⟨_, rfl⟩
  have hq2 : (rt == rt') = q := by rw [dec_eqI, hq]
  rw [hq]
  clear hq
  go_enter Tryd.func88, Tryd.ntmps88
  go_wp2_with fail
  refine (HE.out _ (alloc_two w _ _)).mono ?_
  rintro e w1 ⟨rfl, hb⟩
  obtain ⟨a0, a1, a2⟩ := box3b (HB1.out.up hb)
  obtain ⟨b0, b1, b2⟩ := box3b (HB2.out.up hb)
  have E := hid ((alloc_two w _ _).trans hb)
  clear hb
  go_wp2
  go_ret
  exact ⟨rfl, E.out⟩
/-- Where a name stands, and whether it is there. -/
def GivesAt (w : World) (s : M.Sg) (l : List M.Sg) (e : Ending) (w' : World) : Prop := ∃ (k : Nat) (b : Bool), e = .returned (.tuple #[.int .i64 (k : Int), .bool b]) ∧ k ≤ l.length ∧ M.kPre s.name l k ∧ M.kPost s.name l k ∧ (b = true → ∃ x, l[k]? = some x ∧ x.name = s.name) ∧ (b = false → ∀ x, l[k]? = some x → x.name ≠ s.name) ∧ Ext w w'
set_option maxHeartbeats 16000000 in
set_option maxRecDepth 100000 in
theorem search_t {l : List M.Sg} {s : M.Sg} {v : Value} {A' : Option Addr} {n' c' : Nat} {w : World} (h : Sgs w l v) (ha : M.kAsc l) (hlen : l.length ≤ 1000000) : Calls Tryd.prog 86 #[v, sgv s.name A' n' c' s.ret, byNameFun] w (GivesAt w s l) := by
 obtain ⟨A, c, rfl⟩ := h.shape
 obtain ⟨hl1, hl2, hl3⟩ := h.le
 obtain ⟨nm, ag, rt⟩ := s
 show Calls Tryd.prog 86 #[.slice A l.length c, sgv nm A' n' c' rt, byNameFun] w (GivesAt w ⟨nm, ag, rt⟩ l)
 obtain ⟨n, hn⟩ : ∃ n, l.length = n := ⟨_, rfl⟩
 rw [hn] at h hl2 hlen ⊢
 have HS := hid h
 have HA := hid ha
 have HN := hid hn
 have HB := hid (Box.new w #[str nm, .slice A' n' c', .int .i64 rt] 53)
 clear h ha hn hl1
 go_enter Tryd.func86, Tryd.ntmps86
 go_wp2_with fail
 go_loopw [9, 10] (fun x9 x10 wr => ∃ (a b : Nat), x9 = .int .i64 (a : Int) ∧ x10 = .int .i64 (b : Int) ∧ a ≤ b ∧ b ≤ n ∧ Hid (M.kPre nm l a ∧ M.kPost nm l b ∧ Ext (w.alloc (.cells #[str nm, .slice A' n' c', .int .i64 rt] 53)) wr)) (fun x9 x10 _ => (intOf x10).toNat - (intOf x9).toNat)
 case atStart => exact ⟨0, n, rfl, rfl, Nat.zero_le _, Nat.le_refl _, fun j x hj => by omega, fun j x hj hx => (by have := (List.getElem?_eq_some_iff.1 hx).1; rw [HN.out] at this; omega), Ext.refl _⟩
 case round =>
  obtain ⟨a, b, rfl, rfl, hab, hbn, hR⟩ := hrel
  have HP := hid hR.out.1
  have HQ := hid hR.out.2.1
  have E := hid hR.out.2.2
  clear hR
  by_cases hlt : a < b
  ·have hlt' : (a : Int) < (b : Int) := by omega
   obtain ⟨m, hm⟩ : ∃ m : Nat, (a + b) / 2 = m := ⟨_, rfl⟩
   have hmi : ((a : Int) + (b : Int)) / 2 = (m : Int) := by omega
   have hma : a ≤ m := by omega
   have hmb : m < b := by omega
   have hmn : m < n := by omega
   have hmn' : (m : Int) < (n : Int) := by omega
   have hw1 : IntKind.i64.wrap ((a : Int) + (b : Int)) = (a : Int) + (b : Int) := by rw [IntKind.wrap_i64]; omega
   have hw2 : IntKind.u64.wrap ((a : Int) + (b : Int)) = (a : Int) + (b : Int) := by simp [IntKind.wrap, IntKind.bits, IntKind.signed]; omega
   have hw3 : IntKind.i64.wrap (m : Int) = (m : Int) := by rw [IntKind.wrap_i64]; omega
   have hw4 : IntKind.i64.wrap ((m : Int) + 1) = (m : Int) + 1 := by rw [IntKind.wrap_i64]; omega
   clear hm
   obtain ⟨ad, u, B, d, rfl, hu, ⟨c0, c1, c2⟩, hv⟩ := HS.out.get hmn
   have HU := hid hu
   have C0 := hid c0
   have C1 := hid c1
   have C2 := hid c2
   obtain ⟨z, hz⟩ : ∃ z, Lib.compareBytes u.name nm = z := ⟨_, rfl⟩
   have HZ := hid hz
   have hzl : decide (z < 0) = Go.Op.bytesLess u.name nm := by rw [← hz]; exact M.cmpB_lt _ _
   have HW := hid (Ext.alloc w (.cells #[str nm, .slice A' n' c', .int .i64 rt] 53))
   clear hu c0 c1 c2 hv hz
   go_upto_region 4 with (fail)
   refine wp_region_S [(0, 0), (1, 0), (2, 0), (3, 0), (4, 0), (5, 0), (6, 0)] fun wd hb => ?_
   replace E := hid (E.out.trans hb)
   clear hb
   refine WE.p 18 (.int .i64 (a : Int)) ?_
   simp only [Act.put, pA, pB, pC]
   refine WE.p 19 (.int .i64 (b : Int)) ?_
   simp only [Act.put, pA, pB, pC]
   refine WE.p 20 (.int .i64 ((a : Int) + (b : Int))) ?_
   simp only [Act.put, pA, pB, pC]
   refine WE.p 21 (.int .u64 ((a : Int) + (b : Int))) ?_
   simp only [Act.put, pA, pB, pC]
   refine WE.p 22 (.int .u64 (m : Int)) ?_
   simp only [Act.put, pA, pB, pC]
   refine WE.p 23 (.int .i64 (m : Int)) ?_
   simp only [Act.put, pA, pB, pC]
   refine WE.p 11 (.int .i64 (m : Int)) ?_
   simp only [Act.put, pA, pB, pC]
   refine WE.done ?_
   obtain ⟨q, hq⟩ : ∃ q, Go.Op.bytesLess u.name nm = q := ⟨_, rfl⟩
   rw [hq] at hzl
   have HBQ := hid hq
   clear hq
   clear hw1 hw2 hmi
   go_wp2_with fail
   refine wp_region_D [(0, 0), (1, 0), (2, 0), (3, 0), (4, 0), (5, 0), (6, 1), (7, 0)] fun wd hb => ?_
   replace E := hid (E.out.trans hb)
   clear hb
   refine WE.p 24 byNameFun ?_
   simp only [Act.put, pA, pB, pC]
   refine WE.p 25 (.slice (some ad) n c) ?_
   simp only [Act.put, pA, pB, pC]
   refine WE.p 26 (.int .i64 (m : Int)) ?_
   simp only [Act.put, pA, pB, pC]
   refine WE.p 27 (.pointer (some (ad.add (m * 3)))) ?_
   simp only [Act.put, pA, pB, pC]
   refine WE.q 28 (sgv u.name B u.args.length d u.ret) rfl (fun w' hk => by
    have ee := (HW.out.trans E.out).trans hk
    have x0 := ee.cell C0.out
    have x1 := ee.cell C1.out
    have x2 := ee.cell C2.out
    go_simp) ?_
   simp only [Act.put, pA, pB, pC]
   refine WE.q 29 (sgv nm A' n' c' rt) rfl (fun w' hk => by obtain ⟨x0, x1, x2⟩ := box3b (HB.out.up (E.out.trans hk)); go_simp) ?_
   simp only [Act.put, pA, pB, pC]
   refine WE.c 30 (f := 87) ((byName_n (A := B) (n := u.args.length) (c := d) (r := u.ret) (A' := A') (n' := n') (c' := c') (r' := rt) HZ.out).mono ?_)
   rintro e w2 ⟨rfl, hb⟩
   refine ⟨_, rfl, hb, ?_⟩
   replace E := hid (E.out.trans hb)
   clear hb
   simp only [Act.put, pA, pB, pC]
   refine WE.p 31 (.bool q) ?_
   simp only [Act.put, pA, pB, pC]
   refine WE.done ?_
   cases q
   ·have HN2 := hid (M.kPost_from HA.out HU.out HBQ.out)
    clear hzl
    go_wp2_with fail
    go_roundw
    case rel => exact ⟨a, m, by simp, by simp, by omega, by omega, HP.out, HN2.out, E.out⟩
    case measure => simp [intOf]; omega
   ·have HN2 := hid (M.kPre_upto HA.out HU.out HBQ.out)
    clear hzl
    go_wp2_with fail
    go_roundw
    case rel => exact ⟨m + 1, b, by simp, by simp, by omega, by omega, HN2.out, HQ.out, E.out⟩
    case measure => simp [intOf]; omega
  ·obtain rfl : a = b := by omega
   rcases Nat.lt_or_ge a n with han | han
   ·have han' : (a : Int) < (n : Int) := by omega
    obtain ⟨ad, u, B, d, rfl, hu, ⟨c0, c1, c2⟩, hv⟩ := HS.out.get han
    have HU := hid hu
    have C0 := hid c0
    have C1 := hid c1
    have C2 := hid c2
    obtain ⟨z, hz⟩ : ∃ z, Lib.compareBytes u.name nm = z := ⟨_, rfl⟩
    have HZ := hid hz
    obtain ⟨q, hq⟩ : ∃ q, decide (u.name = nm) = q := ⟨_, rfl⟩
    have hzq : (z == 0) = q := by rw [dec_eqI, ← hz, M.cmpB_eq, hq]
    have HQN := hid hq
    have HW := hid (Ext.alloc w (.cells #[str nm, .slice A' n' c', .int .i64 rt] 53))
    clear hu c0 c1 c2 hv hz hq
    go_wp2_with fail
    refine wp_region_D [(0, 0), (1, 0), (2, 0), (3, 0), (4, 0), (5, 0), (6, 0), (7, 0), (8, 0), (9, 0), (10, 0), (11, 1), (12, 0), (13, 0), (14, 0), (15, 0)] fun wd hb => ?_
    replace E := hid (E.out.trans hb)
    clear hb
    refine WE.p 35 (.int .i64 (a : Int)) ?_
    simp only [Act.put, pA, pB, pC]
    refine WE.p 36 (.int .i64 (a : Int)) ?_
    simp only [Act.put, pA, pB, pC]
    refine WE.p 37 (.int .i64 (n : Int)) ?_
    simp only [Act.put, pA, pB, pC]
    refine WE.p 38 (.bool true) ?_
    simp only [Act.put, pA, pB, pC]
    refine WE.p 39 (.bool true) ?_
    simp only [Act.put, pA, pB, pC]
    refine WE.p 40 (byNameFun) ?_
    simp only [Act.put, pA, pB, pC]
    refine WE.p 41 (.slice (some ad) n c) ?_
    simp only [Act.put, pA, pB, pC]
    refine WE.p 42 (.int .i64 (a : Int)) ?_
    simp only [Act.put, pA, pB, pC]
    refine WE.p 43 (.pointer (some (ad.add (a * 3)))) ?_
    simp only [Act.put, pA, pB, pC]
    refine WE.q 44 (sgv u.name B u.args.length d u.ret) rfl (fun w' hk => by have ee := (HW.out.trans E.out).trans hk; have x0 := ee.cell C0.out; have x1 := ee.cell C1.out; have x2 := ee.cell C2.out; go_simp) ?_
    simp only [Act.put, pA, pB, pC]
    refine WE.q 45 (sgv nm A' n' c' rt) rfl (fun w' hk => by obtain ⟨x0, x1, x2⟩ := box3b (HB.out.up (E.out.trans hk)); go_simp) ?_
    simp only [Act.put, pA, pB, pC]
    refine WE.c 46 (f := 87) ((byName_n (A := B) (n := u.args.length) (c := d) (r := u.ret) (A' := A') (n' := n') (c' := c') (r' := rt) HZ.out).mono ?_)
    rintro e w2 ⟨rfl, hb⟩
    refine ⟨_, rfl, hb, ?_⟩
    replace E := hid (E.out.trans hb)
    clear hb
    simp only [Act.put, pA, pB, pC]
    refine WE.p 47 (.bool q) ?_
    simp only [Act.put, pA, pB, pC]
    refine WE.p 48 (.bool q) ?_
    simp only [Act.put, pA, pB, pC]
    refine WE.p 6 (.int .i64 (a : Int)) ?_
    simp only [Act.put, pA, pB, pC]
    refine WE.p 7 (.bool q) ?_
    simp only [Act.put, pA, pB, pC]
    refine WE.done ?_
    go_wp2_with fail
    go_ret2
    refine ⟨a, q, rfl, by rw [HN.out]; exact hbn, HP.out, HQ.out, fun h => ⟨u, HU.out, by subst h; simpa using HQN.out⟩, fun h x hx => ?_, HW.out.trans E.out⟩
    rw [HU.out] at hx
    injection hx with hx
    subst hx
    subst h
    simpa using HQN.out
   ·obtain rfl : a = n := by omega
    have HW := hid (Ext.alloc w (.cells #[str nm, .slice A' n' c', .int .i64 rt] 53))
    go_wp2_with fail
    refine wp_region_D [(0, 0), (1, 0), (2, 0), (3, 0), (4, 0), (5, 0), (6, 0), (7, 0), (8, 0), (9, 0), (10, 0), (11, 1), (12, 0), (13, 0), (14, 0), (15, 0)] fun wd hb => ?_
    replace E := hid (E.out.trans hb)
    clear hb
    refine WE.p 35 (.int .i64 (a : Int)) ?_
    simp only [Act.put, pA, pB, pC]
    refine WE.p 36 (.int .i64 (a : Int)) ?_
    simp only [Act.put, pA, pB, pC]
    refine WE.p 37 (.int .i64 (a : Int)) ?_
    simp only [Act.put, pA, pB, pC]
    refine WE.p 38 (.bool false) ?_
    simp only [Act.put, pA, pB, pC]
    refine WE.p 39 (.bool false) ?_
    simp only [Act.put, pA, pB, pC]
    refine WE.s 40 ?_
    simp only [Act.put, pA, pB, pC]
    refine WE.s 41 ?_
    simp only [Act.put, pA, pB, pC]
    refine WE.s 42 ?_
    simp only [Act.put, pA, pB, pC]
    refine WE.s 43 ?_
    simp only [Act.put, pA, pB, pC]
    refine WE.s 44 ?_
    simp only [Act.put, pA, pB, pC]
    refine WE.s 45 ?_
    simp only [Act.put, pA, pB, pC]
    refine WE.t 46 ?_
    simp only [Act.put, pA, pB, pC]
    refine WE.s 47 ?_
    simp only [Act.put, pA, pB, pC]
    refine WE.p 48 (.bool false) ?_
    simp only [Act.put, pA, pB, pC]
    refine WE.p 6 (.int .i64 (a : Int)) ?_
    simp only [Act.put, pA, pB, pC]
    refine WE.p 7 (.bool false) ?_
    simp only [Act.put, pA, pB, pC]
    refine WE.done ?_
    go_wp2_with fail
    go_ret2
    refine ⟨a, false, rfl, by rw [HN.out]; exact Nat.le_refl _, HP.out, HQ.out, fun h => (by cases h), fun h x hx => ?_, HW.out.trans E.out⟩
    have := (List.getElem?_eq_some_iff.1 hx).1
    rw [HN.out] at this; omega
end Go.Proofs.YtaoboilkpgphaaaDoor.Q
