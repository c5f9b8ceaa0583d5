/-
  Layer 12's laws: ValuePuts.
-/
import Derived.Test.YtkhmgdfhggejaaaGreatDoorWVN
import Derived.Test.YtkhmgdfhggejaaaGreatDoorWVM
import Derived.Test.YtkhmgdfhggejaaaGreatDoorWVK
import Derived.Laws.IdiomStrings
namespace Go.Proofs.YtkhmgdfhggejaaaGreatDoor.Q
set_option linter.unusedSimpArgs false
set_option linter.unusedVariables false
open Go.RowKit

theorem byte_strV (x : Nat) (hx : x < 256) (g : Nat) (w : World) (T : TypeId) (hb : Box w g #[.int .u8 (x : Int)] T) :
 (convert 56 9 (.slice (some ⟨g, 0, none⟩) 1 1)).run Tryz.prog w = .ok (str [UInt8.ofNat x]) w := by
 have h := run_convert_bytes_back (P := Tryz.prog) w 56 9 5 ⟨g, 0, none⟩ 1 [UInt8.ofNat x] Tryz.underlying56 Tryz.underlying5 Tryz.underlying9 (fun j hj => by
  obtain rfl : j = 0 := by simpa using hj
  have := hb.cell (o := 0) (v := .int .u8 (x : Int)) rfl
  have e : (UInt8.ofNat x).toNat = x := by simp [Nat.mod_eq_of_lt hx]
  simpa [Addr.add, e] using this)
 exact h
theorem FnList.one {w : World} {ad : Addr} {n c : Nat} {l : List M.Fn} (h : FnList w l (.slice (some ad) n c)) {k : Nat} {f : M.Fn} (hk : l[k]? = some f) : FnList w [f] (.slice (some (ad.add (k * 7))) 1 (c - k)) := by
 obtain ⟨A', n', c', e, hn, hc, hm, hz⟩ := h
 injection e with e1 e2 e3
 subst e1 e2 e3
 have hlt : k < l.length := (List.getElem?_eq_some_iff.1 hk).1
 refine ⟨_, _, _, rfl, rfl, by omega, by omega, fun j x hx => ?_⟩
 obtain ⟨hk1, hy⟩ := List.getElem?_eq_some_iff.1 hx
 obtain rfl : j = 0 := by simpa using hk1
 obtain rfl : f = x := by simpa using hy
 obtain ⟨ad', ha, hbl, hf⟩ := hz _ _ hk
 cases ha
 exact ⟨_, rfl, by rw [addr_block]; exact hbl, by rw [Addr.add_add, Nat.zero_mul, Nat.add_zero]; exact hf⟩
theorem slice_oneF {ad : Addr} {n c k : Nat} (hk : k < n) (hn : n ≤ c) (w : World) :
 (Instr.slice 28 (.slice (some ad) n c) (some (.int .i64 (k : Int))) (some (.int .i64 ((k : Int) + 1))) none).run Tryz.prog w = .ok (.slice (some (ad.add (k * 7))) 1 (c - k)) w := by
 obtain ⟨i0, hi, hz0, hz1, hz2⟩ := info_parts info_FunV
 obtain ⟨e, he⟩ : ∃ e, k + 1 = e := ⟨_, rfl⟩
 have h1 : (k : Int) + 1 = (e : Int) := by omega
 have h2 : e ≤ c := by omega
 have h3 : k ≤ e := by omega
 have h4 : ¬ c = k := by omega
 have h5 : e - k = 1 := by omega
 rw [h1]
 simp [Instr.slice, run_underlying Tryz.underlying28, Instr.sliceBounds, run_sliceBound, sizeOf, typeInfo, hi, hz1, h2, h3, h4, h5]
theorem vexec_one {w : World} {v u x y : Value} {o : Oper} {a : Act} (s p q : Operand) (ho : o.op = .slice 28 s (some p) (some q) none) (hs : a.eval s = v) (hp : a.eval p = x) (hq : a.eval q = y)
 (hr : (Instr.slice 28 v (some x) (some y) none).run Tryz.prog w = .ok u w) : (execOp a.eval o).run Tryz.prog w = .ok (.value u) w := by
 have h2 : (Instr.sliceAt 28 v (some x) (some y) none).run Tryz.prog w = .ok u w := by
  have e : (Instr.sliceAt 28 v (some x) (some y) none).run Tryz.prog w = (Instr.slice 28 v (some x) (some y) none).run Tryz.prog w := by simp [Instr.sliceAt, run_underlying Tryz.underlying28]
  rw [e]; exact hr
 unfold execOp
 simp only [ho, hs, hp, hq, Option.map, Sem.run_bind, Sem.run_pure, Result.andThen_ok]
 rw [h2]
 rfl
theorem M.fkey_one (f g : M.Fn) : decide ([f].map M.fkey = [g].map M.fkey) = decide (M.fkey f = M.fkey g) := by
 rw [decide_eq_decide]
 simp
/-- How many have other names. -/
def M.others (nm : List UInt8) (l : List M.Fn) : Nat := (l.filter fun f => decide (f.sg.name ≠ nm)).length
theorem M.others_next {nm : List UInt8} {l : List M.Fn} {k : Nat} {f : M.Fn} (h : l[k]? = some f) : M.others nm (l.take (k + 1)) = M.others nm (l.take k) + (if f.sg.name = nm then 0 else 1) := by
 unfold M.others
 rw [List.take_add_one, h, Option.toList_some, List.filter_append, List.length_append, List.filter_cons]
 by_cases hn : f.sg.name = nm
 ·rw [decide_eq_false (fun h => h hn), if_pos hn]; rfl
 ·rw [decide_eq_true hn, if_neg hn]; rfl
theorem M.others_le (nm : List UInt8) (l : List M.Fn) : M.others nm l ≤ l.length := List.length_filter_le _ _
theorem M.fnOk_wd {f : M.Fn} (h : M.fnOk f) : M.funWd f ∧ M.fnWd 40 f := by
 obtain ⟨h1, h2, h3, h4, h5⟩ := h
 exact ⟨⟨by omega, by omega, by omega, fun r hr => ⟨by have := (h5 r hr).1; omega, fun x hx => by have := (h5 r hr).2.2 x hx; omega, by have := (h5 r hr).2.1; omega⟩, by omega⟩, by omega, fun r hr => by have := (h5 r hr).2.1; omega⟩
theorem M.vz_len3 {Z : Int} (h1 : -9223372036854775808 ≤ Z) (h2 : Z ≤ 9223372036854775807) : (M.vz 2 Z).2.2.length ≤ 3 := limbs_len3 (by omega)
theorem M.const_wd {nm : List UInt8} {Z : Int} (hn : nm.length ≤ 100) (h1 : -9223372036854775808 ≤ Z) (h2 : Z ≤ 9223372036854775807) : M.funWd (M.constF nm (M.vz 2 Z)) ∧ M.fnWd 40 (M.constF nm (M.vz 2 Z)) := by
 have := M.vz_len3 h1 h2
 exact ⟨M.constF_wd (by omega) (by omega), by show (M.vz 2 Z).2.2.length ≤ 40; omega, fun r hr => by cases hr⟩
def M.PX (nm : List UInt8) (T D : List M.Fn) (Z : Int) : List M.Fn := T ++ M.constF nm (M.vz 2 Z) :: D
/-- What the two puts give. -/
structure M.PutsOk (nm : List UInt8) (m T D : List M.Fn) (N : Nat) : Prop where
 put1 : ∀ Z, M.mPut (M.mRead m) (M.constF nm (M.vz 2 Z)) = M.PX nm T D Z
 put2 : ∀ Z Z', M.mPut (M.mRead (M.PX nm T D Z)) (M.constF nm (M.vz 2 Z')) = M.PX nm T D Z'
 len : ∀ Z, (M.PX nm T D Z).length = N
 small : N ≤ 13
 is : ∀ Z, M.mIs (M.PX nm T D Z) = true
 eval : ∀ Z, M.mEval (M.PX nm T D Z) (M.conT nm) = M.vz 2 Z
 wd : ∀ Z, -9223372036854775808 ≤ Z → Z ≤ 9223372036854775807 → ∀ f ∈ M.PX nm T D Z, M.funWd f ∧ M.fnWd 40 f
 cnt : M.others nm m + 1 = N
 mem : ∀ f ∈ m, f.sg.name ≠ nm → ∀ Z, f ∈ M.PX nm T D Z
theorem M.puts_ok {nm : List UInt8} {m : List M.Fn} (hm : M.mIs m = true) (hl : m.length ≤ 12) (ho : ∀ f ∈ m, M.fnOk f) (hn : nm.length = 2) (hk : M.ksig ⟨nm, [], 2⟩ = true) (hi : M.kIs (M.conT nm) = true) : ∃ T D N, M.PutsOk nm m T D N := by
 obtain ⟨T, D, P⟩ := M.parts_of nm hm
 have hc := P.count
 have hc2 := M.others_le nm m
 have hN : ∀ Z, (M.PX nm T D Z).length = M.others nm m + 1 := by
  intro Z
  unfold M.others
  rw [hc]
  unfold M.PX
  simp
  omega
 refine ⟨T, D, M.others nm m + 1, ⟨fun Z => ?_, fun Z Z' => ?_, hN, by omega, fun Z => P.is hm hk, fun Z => P.eval hm hk hi, fun Z h1 h2 f hf => ?_, rfl, fun f hf hne Z => ?_⟩⟩
 ·unfold M.mRead
  rw [if_pos hm]
  exact P.put rfl
 ·unfold M.mRead
  rw [if_pos (show M.mIs (M.PX nm T D Z) = true from P.is hm hk)]
  exact M.put_old (nm := nm) rfl rfl P.lo P.hi
 ·rcases List.mem_append.1 hf with hf | hf
  ·exact M.fnOk_wd (ho f (P.mem (List.mem_append_left _ hf)).1)
  ·rcases List.mem_cons.1 hf with rfl | hf
   ·exact M.const_wd (by omega) h1 h2
   ·exact M.fnOk_wd (ho f (P.mem (List.mem_append_right _ hf)).1)
 ·rcases List.mem_append.1 (P.back hf hne) with h | h
  ·exact List.mem_append_left _ h
  ·exact List.mem_append_right _ (List.mem_cons_of_mem _ h)
set_option maxHeartbeats 40000000 in
set_option maxRecDepth 100000 in
theorem puts_v {m : List M.Fn} {A : Option Addr} {n mc : Nat} {a b : Int} {c : Nat} {w : World} (h : FnList w m (.slice A n mc)) (ha1 : -9223372036854775808 ≤ a) (ha2 : a ≤ 9223372036854775807) (hb1 : -9223372036854775808 ≤ b) (hb2 : b ≤ 9223372036854775807) (hc : c ≤ 255) (hT : Tab w) : Calls Tryz.prog 5 #[.slice A n mc, .int .i64 a, .int .i64 b, .int .u8 (c : Int)] w (GivesB w true) := by
 obtain ⟨hn, hl2, hl3⟩ := h.le
 have HKN := hid (vknown_n hT)
 have HT := hid (fun w' (e : Ext w w') => hT.up e)
 have HM := hid (fun w' (e : Ext w w') => h.up e)
 have HN := hid hn
 have HA := hid (And.intro ha1 ha2)
 have HB := hid (And.intro hb1 hb2)
 have HC := hid hc
 clear hT h ha1 ha2 hb1 hb2 hc hn
 go_enter Tryz.func5, Tryz.ntmps5
 go_wp2_with fail
 refine HKN.out.mono ?_
 rintro e w1 ⟨rfl, hx⟩
 have E := hid hx
 clear hx HKN
 go_wp2_with fail
 refine (fewFuns_v (HM.out _ E.out)).mono ?_
 rintro e w2 ⟨q, rfl, hx, hq⟩
 replace E := hid (E.out.trans hx)
 have HQ := hid hq
 clear hx hq
 cases q
 case false =>
  go_wp2_with fail
  go_ret
  exact ⟨rfl, E.out⟩
 obtain ⟨hfl, hfo⟩ := HQ.out rfl
 obtain ⟨qi, hqi⟩ : ∃ q, M.mIs m = q := ⟨_, rfl⟩
 have HIS := hid (show ∀ w', Ext w w' → Calls Tryz.prog 23 #[.slice A n mc] w' (GivesB w' qi) from fun w' e => hqi ▸ is_v (HM.out _ e) (fun f hf => (M.fnOk_wd (hfo f hf)).1.2.1))
 have HFL := hid hfl
 have HFO := hid hfo
 have HQI := hid hqi
 clear HQ hfl hfo hqi
 go_wp2_with fail
 refine (HIS.out _ E.out).mono ?_
 rintro e w3 ⟨rfl, hx⟩
 replace E := hid (E.out.trans hx)
 clear hx HIS
 cases qi
 case false =>
  go_wp2_with fail
  go_ret
  exact ⟨rfl, E.out⟩
 obtain ⟨c5, hc5⟩ : ∃ x : Nat, x = c % 26 := ⟨_, rfl⟩
 have q1 : (c : Int).tmod 26 = (c5 : Int) := by rw [Int.tmod_eq_emod_of_nonneg (by omega)]; omega
 have q1' : (c : Int) % 26 = (c5 : Int) := by omega
 obtain ⟨x5, hx5⟩ : ∃ x : Nat, x = 97 + c5 := ⟨_, rfl⟩
 have q2 : IntKind.u8.wrap (c5 : Int) = (c5 : Int) := by rw [IntKind.wrap_u8]; omega
 have q3 : IntKind.u8.wrap (97 + (c5 : Int)) = (x5 : Int) := by rw [IntKind.wrap_u8]; omega
 have hx256 : x5 < 256 := by omega
 obtain ⟨b5, hb5⟩ : ∃ b, b = UInt8.ofNat x5 := ⟨_, rfl⟩
 have hcv : ∀ w0 : World, (convert 56 9 (.slice (some ⟨w0.heap.size, 0, none⟩) 1 1)).run Tryz.prog (w0.alloc (.cells #[.int .u8 (x5 : Int)] 5)) = .ok (str [b5]) (w0.alloc (.cells #[.int .u8 (x5 : Int)] 5)) := fun w0 => hb5 ▸ byte_strV x5 hx256 _ _ _ (Box.new w0 _ _)
 have hcat : (⟨#[107]⟩ : ByteArray) ++ ⟨#[b5]⟩ = ⟨#[107, b5]⟩ := by apply ByteArray.ext; simp
 have HNM := hid (show ([107, b5] : List UInt8) = M.nmK c5 by rw [hb5, hx5]; rfl)
 have HKS := hid (show M.ksig ⟨[107, b5], [], 2⟩ = true ∧ M.kIs (M.conT [107, b5]) = true ∧ M.kfew (M.conT [107, b5]) = true by rw [HNM.out]; exact M.nmK_is ⟨c5, by omega⟩)
 clear hc5 hx5 hb5 HNM
 obtain ⟨nm, hnm⟩ : ∃ nm : List UInt8, [107, b5] = nm := ⟨_, rfl⟩
 have HNL := hid (show nm.length = 2 by rw [← hnm]; rfl)
 rw [hnm] at HKS
 have hstr : (.string ⟨#[107, b5]⟩ : Value) = str nm := by rw [← hnm]
 obtain ⟨T, D, N, P⟩ := M.puts_ok HQI.out HFL.out HFO.out HNL.out HKS.out.1 HKS.out.2.1
 have HP := hid P
 clear P
 go_upto_region 6 with (fail)
 refine vwp_at (fun W => Ext w W) (E.out.alloc' _) ?_
 intro W0 he
 replace E := hid he
 clear he hcv hcat hstr hnm q1 q1' q2 q3 hx256
 go_wp2_with fail
 refine (rOf_z HA.out.1 HA.out.2 _).mono ?_
 rintro e w4 ⟨v4, rfl, hv4, hx⟩
 obtain ⟨A4, n4, c4, rfl, hn4, -⟩ := hv4
 obtain ⟨da, hda⟩ : ∃ d, decide (a < 0) = d := ⟨_, rfl⟩
 rw [hda]
 replace E := hid (E.out.trans hx)
 have HXA := hid (show IsVl w4 (M.vz 2 a) (vv 2 da A4 n4 c4) from isVl_num hda hn4)
 clear hx hn4 hda
 go_wp2_with fail
 refine (put_v (HM.out _ E.out) HXA.out (by have := HFL.out; omega) (fun f hf => (M.fnOk_wd (HFO.out f hf)).1) (by rw [HNL.out]; omega) (by have := M.vz_len3 HA.out.1 HA.out.2; omega)).mono ?_
 rintro e w5 ⟨v5, rfl, hf5, hx⟩
 rw [HP.out.put1] at hf5
 have hf5' := hf5.sub (gp_sub _ _)
 obtain ⟨XA, xc, rfl⟩ := hf5'.shape
 rw [HP.out.len] at hf5' ⊢
 replace E := hid (E.out.trans hx)
 have HX := hid (show StrIn w5 (M.PX nm T D a) (.slice XA N xc) from ⟨hf5', by rw [HP.out.len]; have := HP.out.small; omega, fun f hf => (HP.out.wd a HA.out.1 HA.out.2 f hf).1, fun f hf => (HP.out.wd a HA.out.1 HA.out.2 f hf).2⟩)
 clear hx hf5 hf5' HXA
 go_wp2_with fail
 refine (rOf_z HB.out.1 HB.out.2 _).mono ?_
 rintro e w6 ⟨v6, rfl, hv6, hx⟩
 obtain ⟨A6, n6, c6, rfl, hn6, -⟩ := hv6
 obtain ⟨db, hdb⟩ : ∃ d, decide (b < 0) = d := ⟨_, rfl⟩
 rw [hdb]
 replace E := hid (E.out.trans hx)
 replace HX := hid (HX.out.up hx)
 have HXB := hid (show IsVl w6 (M.vz 2 b) (vv 2 db A6 n6 c6) from isVl_num hdb hn6)
 clear hx hn6 hdb
 go_wp2_with fail
 refine (put_v HX.out.list HXB.out HX.out.len HX.out.fw (by rw [HNL.out]; omega) (by have := M.vz_len3 HB.out.1 HB.out.2; omega)).mono ?_
 rintro e w7 ⟨v7, rfl, hf7, hx⟩
 rw [HP.out.put2] at hf7
 have hf7' := hf7.sub (gp_sub _ _)
 obtain ⟨YA, yc, rfl⟩ := hf7'.shape
 rw [HP.out.len] at hf7' ⊢
 replace E := hid (E.out.trans hx)
 replace HX := hid (HX.out.up hx)
 have HY := hid (show StrIn w7 (M.PX nm T D b) (.slice YA N yc) from ⟨hf7', by rw [HP.out.len]; have := HP.out.small; omega, fun f hf => (HP.out.wd b HB.out.1 HB.out.2 f hf).1, fun f hf => (HP.out.wd b HB.out.1 HB.out.2 f hf).2⟩)
 clear hx hf7 hf7' HXB
 go_wp2_with fail
 refine (vcon_n nm 2 _).mono ?_
 rintro e w8 ⟨v8, rfl, hv8, hx⟩
 have HCT := hid (show IsTm w8 (M.conT nm) v8 from hv8)
 obtain ⟨N1, nn1, nc1, A1, c1, hkv, -, -⟩ := hv8
 obtain rfl : v8 = kv 4 false N1 nn1 nc1 nm 2 A1 0 c1 := hkv
 replace E := hid (E.out.trans hx)
 replace HX := hid (HX.out.up hx)
 replace HY := hid (HY.out.up hx)
 clear hx
 go_upto_region 9 with (fail)
 refine vwp_at (fun W => Box W w8.heap.size #[.int .i64 4, .bool false, .slice N1 nn1 nc1, str nm, .int .i64 2, .slice A1 0 c1] 27 ∧ Ext w8 W) ⟨Box.new w8 _ _, Ext.alloc w8 _⟩ ?_
 intro W9 ⟨hb9, he⟩
 obtain ⟨gt, hgt⟩ : ∃ g, w8.heap.size = g := ⟨_, rfl⟩
 rw [hgt] at hb9 ⊢
 have HBX := hid hb9
 replace E := hid (E.out.trans he)
 replace HX := hid (HX.out.up he)
 replace HY := hid (HY.out.up he)
 replace HCT := hid (HCT.out.up he)
 clear hb9 he hgt
 have HIX := hid (show ∀ w', Ext W9 w' → Calls Tryz.prog 23 #[.slice XA N xc] w' (GivesB w' true) from fun w' e => HP.out.is a ▸ is_v (HX.out.list.up e) (fun f hf => (HX.out.fw f hf).2.1))
 have HIY := hid (show ∀ w', Ext W9 w' → Calls Tryz.prog 23 #[.slice YA N yc] w' (GivesB w' true) from fun w' e => HP.out.is b ▸ is_v (HY.out.list.up e) (fun f hf => (HY.out.fw f hf).2.1))
 go_wp2_with fail
 refine (HIX.out _ (Ext.refl _)).mono ?_
 rintro e w10 ⟨rfl, hx⟩
 have E10 := hid hx
 clear hx
 go_wp2_with fail
 refine (HIY.out _ E10.out).mono ?_
 rintro e w11 ⟨rfl, hx⟩
 replace E10 := hid (E10.out.trans hx)
 replace HX := hid (HX.out.up E10.out)
 replace HY := hid (HY.out.up E10.out)
 replace HCT := hid (HCT.out.up E10.out)
 replace HBX := hid (HBX.out.up E10.out)
 replace E := hid (E.out.trans E10.out)
 clear hx HIX HIY E10
 obtain ⟨⟨b0, b1, b2, b3, b4, b5'⟩, -, -⟩ := boxF6 HBX.out
 go_wp2_with fail
 refine (eval_v (t := M.conT nm) HX.out HCT.out HKS.out.2.2 (HT.out _ E.out)).mono ?_
 rintro e w12 ⟨v12, rfl, hv12, hx, -⟩
 rw [HP.out.eval a] at hv12
 have hn12 : ∃ g N' n' c', v12 = vv 2 g N' n' c' ∧ decide (a < 0) = g ∧ LNum w12 (.slice N' n' c') (M.limbs a.natAbs) := by
  obtain ⟨N', n', c', rfl, h⟩ := hv12
  exact ⟨_, N', n', c', rfl, rfl, h⟩
 obtain ⟨g12, N12, n12, c12, rfl, hg12, hn12⟩ := hn12
 have HN12 := hid hn12
 have HG12 := hid hg12
 replace HX := hid (HX.out.up hx)
 replace HY := hid (HY.out.up hx)
 replace HCT := hid (HCT.out.up hx)
 replace HBX := hid (HBX.out.up hx)
 replace E := hid (E.out.trans hx)
 clear hx hv12 hn12 hg12 b0 b1 b2 b3 b4 b5'
 have hfl := field_vN
 go_wp2_with fail
 clear hfl
 refine (rOf_z HA.out.1 HA.out.2 _).mono ?_
 rintro e w13 ⟨v13, rfl, hv13, hx⟩
 obtain ⟨A13, n13, c13, rfl, hn13, -⟩ := hv13
 rw [HG12.out]
 have HN13 := hid (show LNum w13 (.slice A13 n13 c13) (M.limbs a.natAbs) from hn13)
 replace HN12 := hid (HN12.out.up hx)
 replace HY := hid (HY.out.up hx)
 replace HCT := hid (HCT.out.up hx)
 replace HBX := hid (HBX.out.up hx)
 replace E := hid (E.out.trans hx)
 clear hx hn13 HX
 go_wp2_with fail
 refine (equal_same HN12.out HN13.out).mono ?_
 rintro e w14 ⟨rfl, hx⟩
 replace HY := hid (HY.out.up hx)
 replace HCT := hid (HCT.out.up hx)
 replace HBX := hid (HBX.out.up hx)
 replace E := hid (E.out.trans hx)
 clear hx HN12 HN13 HG12
 obtain ⟨⟨b0, b1, b2, b3, b4, b5'⟩, -, -⟩ := boxF6 HBX.out
 go_wp2_with fail
 refine (eval_v (t := M.conT nm) HY.out HCT.out HKS.out.2.2 (HT.out _ E.out)).mono ?_
 rintro e w15 ⟨v15, rfl, hv15, hx, -⟩
 rw [HP.out.eval b] at hv15
 have hn15 : ∃ g N' n' c', v15 = vv 2 g N' n' c' ∧ decide (b < 0) = g ∧ LNum w15 (.slice N' n' c') (M.limbs b.natAbs) := by
  obtain ⟨N', n', c', rfl, h⟩ := hv15
  exact ⟨_, N', n', c', rfl, rfl, h⟩
 obtain ⟨g15, N15, n15, c15, rfl, hg15, hn15⟩ := hn15
 have HN15 := hid hn15
 have HG15 := hid hg15
 replace HY := hid (HY.out.up hx)
 replace E := hid (E.out.trans hx)
 clear hx hv15 hn15 hg15 b0 b1 b2 b3 b4 b5' HBX HCT
 have hfl := field_vN
 go_wp2_with fail
 clear hfl
 refine (rOf_z HB.out.1 HB.out.2 _).mono ?_
 rintro e w16 ⟨v16, rfl, hv16, hx⟩
 obtain ⟨A16, n16, c16, rfl, hn16, -⟩ := hv16
 rw [HG15.out]
 have HN16 := hid (show LNum w16 (.slice A16 n16 c16) (M.limbs b.natAbs) from hn16)
 replace HN15 := hid (HN15.out.up hx)
 replace HY := hid (HY.out.up hx)
 replace E := hid (E.out.trans hx)
 clear hx hn16
 go_wp2_with fail
 refine (equal_same HN15.out HN16.out).mono ?_
 rintro e w17 ⟨rfl, hx⟩
 replace HY := hid (HY.out.up hx)
 replace E := hid (E.out.trans hx)
 clear hx HN15 HN16 HG15 HT HKS HQI HA HB
 go_wp2_with fail
 obtain ⟨-, hYl2, hYl3⟩ := HY.out.list.le
 go_loopw [13, 14, 15, 16] (fun x13 x14 _ _ wr => ∃ k : Nat, k ≤ n ∧ x14 = .int .i64 (k : Int) ∧ x13 = .int .i64 (M.others nm (m.take k) : Int) ∧ Hid (Ext w17 wr)) (fun _ x14 _ _ _ => n - (intOf x14).toNat)
 case atStart => exact ⟨0, Nat.zero_le _, rfl, rfl, Ext.refl _⟩
 case round =>
  obtain ⟨k, hk, rfl, rfl, hR⟩ := hrel
  have ER := hid hR.out
  clear hR
  obtain ⟨cn, hcn⟩ : ∃ q, M.others nm (m.take k) = q := ⟨_, rfl⟩
  rw [hcn]
  have HCN := hid hcn
  have hcs : cn ≤ 12 := by
   rw [← hcn]
   have h1 := M.others_le nm (m.take k)
   rw [List.length_take] at h1
   have := HFL.out
   omega
  clear hcn
  rcases Nat.lt_or_ge k n with hlt | hge
  case inr =>
   obtain rfl : k = n := by omega
   have hfin : (N : Int) = (cn : Int) + 1 := by
    have h1 := HP.out.cnt
    have h2 := HCN.out
    rw [show k = m.length from HN.out, List.take_length] at h2
    omega
   have hfin' : ((N : Int) == (cn : Int) + 1) = true := by rw [hfin]; simp
   clear hfin
   go_wp2_with fail
   go_ret
   exact ⟨by rfl, E.out.trans ER.out⟩
  case inl =>
   have hlt' : (k : Int) < (n : Int) := by omega
   obtain ⟨f, hf⟩ : ∃ x, m[k]? = some x := ⟨_, List.getElem?_eq_getElem (by have := HN.out; omega)⟩
   obtain ⟨ad, A1', n1', c1', D1, m1, d1, Nf, nnf, ncf, rfl, ⟨⟨r0, -, -⟩, -, -, -, -⟩, -, -, -⟩ := (HM.out _ (E.out.trans ER.out)).get hf
   have HF := hid hf
   clear hf
   by_cases hname : f.sg.name = nm
   ·have HNE := hid hname
    have hbq : (f.sg.name == nm) = true := by rw [hname]; exact beq_self_eq_true nm
    clear hname
    go_wp2_with fail
    clear r0 hbq
    go_roundw
    case rel => exact ⟨k + 1, by omega, by simp, by rw [M.others_next HF.out, if_pos HNE.out, HCN.out]; rfl, ER.out⟩
    case measure => simp [intOf]; omega
   ·have HNE := hid hname
    have hbq : (f.sg.name == nm) = false := beq_eq_false_iff_ne.2 hname
    clear hname
    go_wp2_with fail
    clear r0 hbq
    go_loopw [15, 16] (fun x15 x16 wq => ∃ (j : Nat) (t : Bool), j ≤ N ∧ x16 = .int .i64 (j : Int) ∧ x15 = .bool t ∧ Hid ((∀ (i : Nat) (g : M.Fn), i < j → (M.PX nm T D b)[i]? = some g → M.fkey f = M.fkey g → t = true) ∧ Ext wr wq)) (fun _ x16 _ => N - (intOf x16).toNat)
    case atStart => exact ⟨0, false, Nat.zero_le _, rfl, rfl, fun i g hi => absurd hi (Nat.not_lt_zero _), Ext.refl _⟩
    case round =>
     obtain ⟨j, t, hj, rfl, rfl, hR⟩ := hrel
     have EJ := hid hR.out.2
     have HTJ := hid hR.out.1
     clear hR
     rcases Nat.lt_or_ge j N with jlt | jge
     case inr =>
      obtain rfl : j = N := by omega
      obtain rfl : t = true := by
       obtain ⟨i, hi⟩ := List.getElem?_of_mem (HP.out.mem f (List.mem_of_getElem? HF.out) HNE.out b)
       exact HTJ.out i f (by have h1 := (List.getElem?_eq_some_iff.1 hi).1; rw [HP.out.len] at h1; exact h1) hi rfl
      go_wp2_with fail
      go_roundw
      case rel => exact ⟨k + 1, by omega, by simp, by rw [M.others_next HF.out, if_neg HNE.out, HCN.out]; simp, ER.out.trans EJ.out⟩
      case measure => simp [intOf]; omega
     case inl =>
     have jlt' : (j : Int) < (N : Int) := by omega
     cases t
     case true =>
      go_wp2_with fail
      refine wp_region_D [(0, 0), (1, 0), (2, 0), (3, 0), (4, 0), (5, 0), (6, 0), (7, 0), (8, 0), (9, 0), (10, 0), (11, 0), (12, 1), (13, 0), (14, 0)] fun wd hb => ?_
      replace EJ := hid (EJ.out.trans hb)
      clear hb
      refine WE.p 104 (.bool true) ?_
      simp only [Act.put, pA, pB, pC]
      refine WE.p 105 (.bool true) ?_
      simp only [Act.put, pA, pB, pC]
      refine WE.s 106 ?_
      simp only [Act.put, pA, pB, pC]
      refine WE.s 107 ?_
      simp only [Act.put, pA, pB, pC]
      refine WE.s 108 ?_
      simp only [Act.put, pA, pB, pC]
      refine WE.s 109 ?_
      simp only [Act.put, pA, pB, pC]
      refine WE.s 110 ?_
      simp only [Act.put, pA, pB, pC]
      refine WE.s 111 ?_
      simp only [Act.put, pA, pB, pC]
      refine WE.s 112 ?_
      simp only [Act.put, pA, pB, pC]
      refine WE.s 113 ?_
      simp only [Act.put, pA, pB, pC]
      refine WE.s 114 ?_
      simp only [Act.put, pA, pB, pC]
      refine WE.s 115 ?_
      simp only [Act.put, pA, pB, pC]
      refine WE.t 116 ?_
      simp only [Act.put, pA, pB, pC]
      refine WE.p 117 (.bool true) ?_
      simp only [Act.put, pA, pB, pC]
      refine WE.p 15 (.bool true) ?_
      simp only [Act.put, pA, pB, pC]
      refine WE.done ?_
      go_wp2_with fail
      go_roundw
      case rel => exact ⟨j + 1, true, by omega, by simp, rfl, fun _ _ _ _ _ => rfl, EJ.out⟩
      case measure => simp [intOf]; omega
     case false =>
      obtain ⟨g, hg⟩ : ∃ x, (M.PX nm T D b)[j]? = some x := ⟨_, List.getElem?_eq_getElem (by rw [HP.out.len]; exact jlt)⟩
      obtain ⟨bd, B1', p1', e1', F1, f1, g1, Ng, nng, ncg, rfl, -, -, -, -⟩ := (HY.out.up ER.out).list.get hg
      obtain ⟨q, hq⟩ : ∃ q, decide (M.fkey f = M.fkey g) = q := ⟨_, rfl⟩
      have HSF := hid (show ∀ w', Ext wr w' → Calls Tryz.prog 28 #[.slice (some (ad.add (k * 7))) 1 (mc - k), .slice (some (bd.add (j * 7))) 1 (yc - j)] w' (GivesB w' q) from fun w' e => by
       have h1 := rSameFuns_v (FnList.one (HM.out _ ((E.out.trans (ER.out.trans EJ.out)).trans e)) HF.out) (FnList.one ((HY.out.up (ER.out.trans EJ.out)).up e).list hg)
       rw [M.fkey_one, hq] at h1
       exact h1)
      have HG := hid hg
      have HQ := hid hq
      clear hg hq
      go_wp2_with fail
      refine wp_region_D [(0, 0), (1, 0), (2, 0), (3, 0), (4, 0), (5, 0), (6, 0), (7, 0), (8, 0), (9, 0), (10, 0), (11, 0), (12, 1), (13, 0), (14, 0)] fun wd hb => ?_
      have EB := hid hb
      replace EJ := hid (EJ.out.trans hb)
      clear hb
      refine WE.p 104 (.bool false) ?_
      simp only [Act.put, pA, pB, pC]
      refine WE.p 105 (.bool false) ?_
      simp only [Act.put, pA, pB, pC]
      refine WE.p 106 (.slice (some ad) n mc) ?_
      simp only [Act.put, pA, pB, pC]
      refine WE.p 107 (.int .i64 (k : Int)) ?_
      simp only [Act.put, pA, pB, pC]
      refine WE.p 108 (.int .i64 (k : Int)) ?_
      simp only [Act.put, pA, pB, pC]
      refine WE.q 109 (.int .i64 ((k : Int) + 1)) rfl (fun w' hk => by have hw : IntKind.i64.wrap ((k : Int) + 1) = (k : Int) + 1 := (by rw [IntKind.wrap_i64]; omega); go_simp) ?_
      simp only [Act.put, pA, pB, pC]
      refine WE.q 110 (.slice (some (ad.add (k * 7))) 1 (mc - k)) rfl (fun w' hk => vexec_one (.tmp 106) (.tmp 107) (.tmp 109) rfl rfl rfl rfl (slice_oneF hlt hl2 w')) ?_
      simp only [Act.put, pA, pB, pC]
      refine WE.p 111 (.slice (some bd) N yc) ?_
      simp only [Act.put, pA, pB, pC]
      refine WE.p 112 (.int .i64 (j : Int)) ?_
      simp only [Act.put, pA, pB, pC]
      refine WE.p 113 (.int .i64 (j : Int)) ?_
      simp only [Act.put, pA, pB, pC]
      refine WE.q 114 (.int .i64 ((j : Int) + 1)) rfl (fun w' hk => by have hw : IntKind.i64.wrap ((j : Int) + 1) = (j : Int) + 1 := (by rw [IntKind.wrap_i64]; omega); go_simp) ?_
      simp only [Act.put, pA, pB, pC]
      refine WE.q 115 (.slice (some (bd.add (j * 7))) 1 (yc - j)) rfl (fun w' hk => vexec_one (.tmp 111) (.tmp 112) (.tmp 114) rfl rfl rfl rfl (slice_oneF jlt hYl2 w')) ?_
      simp only [Act.put, pA, pB, pC]
      refine WE.c 116 ((HSF.out _ EB.out).mono ?_)
      rintro e w5 ⟨rfl, hb⟩
      refine ⟨_, rfl, hb, ?_⟩
      replace EJ := hid (EJ.out.trans hb)
      clear hb HSF
      simp only [Act.put, pA, pB, pC]
      refine WE.p 117 (.bool q) ?_
      simp only [Act.put, pA, pB, pC]
      refine WE.p 15 (.bool q) ?_
      simp only [Act.put, pA, pB, pC]
      refine WE.done ?_
      go_wp2_with fail
      go_roundw
      case rel => exact ⟨j + 1, q, by omega, by simp, rfl, fun i g' hi hg' he => by
       rcases Nat.lt_or_ge i j with h1 | h1
       ·exact absurd (HTJ.out i g' h1 hg' he) (by simp)
       ·obtain rfl : i = j := by omega
        rw [HG.out] at hg'
        cases hg'
        rw [← HQ.out]
        exact decide_eq_true he, EJ.out⟩
      case measure => simp [intOf]; omega
end Go.Proofs.YtkhmgdfhggejaaaGreatDoor.Q
