/-
  Contracts of package digits: what stands inside; a limb of digits; the row of a numeral.
-/
import Derived.Test.YthlafkbldlmmaaaDoorTText
namespace Go.Proofs.YthlafkbldlmmaaaDoor
set_option linter.unusedSimpArgs false
set_option linter.unusedVariables false
open Go.RowKit
namespace M
/-- What stands between the opening and the closing, and whether it does. -/
def inside (l : List UInt8) : List UInt8 × Bool :=
  if (Lib.hasPrefix l [40, 45, 32] && Lib.hasSuffix (Lib.trimPrefix l [40, 45, 32]) [41]) = true then (Lib.trimSuffix (Lib.trimPrefix l [40, 45, 32]) [41], true) else (l, false)
theorem inside_length (l : List UInt8) : (inside l).1.length ≤ l.length := by
  unfold inside
  split
  · exact Nat.le_trans (Lib.trimSuffix_le _ _) (Lib.trimPrefix_le _ _)
  · exact Nat.le_refl _
/-- The number of a row of digits. -/
def num (l : List UInt8) : Nat := l.foldl (fun a b => a * 10 + (b.toNat - 48)) 0
theorem num_snoc (l : List UInt8) (b : UInt8) : num (l ++ [b]) = num l * 10 + (b.toNat - 48) := by unfold num; rw [List.foldl_append]; rfl
theorem num_from : ∀ (l : List UInt8) (a : Nat), l.foldl (fun a b => a * 10 + (b.toNat - 48)) a = a * 10 ^ l.length + num l
  | [], a => by simp [num]
  | b :: r, a => by
    have h2 : num (b :: r) = (0 * 10 + (b.toNat - 48)) * 10 ^ r.length + num r := num_from r (0 * 10 + (b.toNat - 48))
    rw [List.foldl_cons, num_from r, h2, List.length_cons, Nat.pow_succ, Nat.add_mul, Nat.zero_mul, Nat.zero_add, Nat.mul_assoc a 10, Nat.mul_comm 10]
    omega
theorem num_append (l m : List UInt8) : num (l ++ m) = num l * 10 ^ m.length + num m := by
  have := num_from m (num l)
  rw [← this]
  unfold num
  rw [List.foldl_append]
theorem num_cons (b : UInt8) (r : List UInt8) : num (b :: r) = (b.toNat - 48) * 10 ^ r.length + num r := by
  have h := num_from r (0 * 10 + (b.toNat - 48))
  rw [Nat.zero_mul, Nat.zero_add] at h
  rw [← h]
  show r.foldl _ (0 * 10 + (b.toNat - 48)) = _
  rw [Nat.zero_mul, Nat.zero_add]
theorem num_lt : ∀ {l : List UInt8}, l.all digit = true → num l < 10 ^ l.length
  | [], _ => by simp [num]
  | b :: r, h => by
    rw [List.all_cons, Bool.and_eq_true] at h
    have h1 := num_lt h.2
    have h2 : b.toNat - 48 ≤ 9 := by have := h.1; simp [digit] at this; omega
    rw [num_cons, List.length_cons, Nat.pow_succ]
    have := Nat.mul_le_mul_right (10 ^ r.length) h2
    omega
theorem num_pos {b : UInt8} {r : List UInt8} (hb : b.toNat ≠ 48) (hd : digit b = true) : 0 < num (b :: r) := by
  have e := num_append [b] r
  rw [List.singleton_append] at e
  rw [e]
  have h1 : 1 ≤ num [b] := by
    unfold digit at hd
    simp at hd
    show 1 ≤ 0 * 10 + (b.toNat - 48)
    omega
  have h2 : 1 ≤ 10 ^ r.length := Nat.one_le_pow _ _ (by decide)
  have := Nat.mul_le_mul h1 h2
  omega
theorem num_take {l : List UInt8} {k : Nat} {b : UInt8} (h : l[k]? = some b) : num (l.take (k + 1)) = num (l.take k) * 10 + (b.toNat - 48) := by
  rw [List.take_add_one, h]; exact num_snoc _ _
theorem all_part {l : List UInt8} (h : l.all digit = true) (a b : Nat) : ((l.drop a).take b).all digit = true :=
  List.all_eq_true.2 fun x hx => List.all_eq_true.1 h x (List.mem_of_mem_drop (List.mem_of_mem_take hx))
/-- One chunk more. -/
theorem chunk {l : List UInt8} {e : Nat} (he : e ≤ l.length) (h0 : 0 < e) {V t : Nat} (hv : V + 1000000000 ^ t * num (l.take e) = num l) :
    V + 1000000000 ^ t * num ((l.drop (e - 9)).take (e - (e - 9))) + 1000000000 ^ (t + 1) * num (l.take (e - 9)) = num l := by
  have hs : l.take e = l.take (e - 9) ++ (l.drop (e - 9)).take (e - (e - 9)) := by
    conv => lhs; rw [show e = (e - 9) + (e - (e - 9)) by omega, List.take_add]
  rw [← hv, hs, num_append]
  rcases Nat.lt_or_ge e 9 with h | h
  · rw [show e - 9 = 0 by omega]
    simp [num]
  · have hl : ((l.drop (e - 9)).take (e - (e - 9))).length = 9 := by rw [List.length_take, List.length_drop]; omega
    rw [hl, Nat.mul_add, Nat.pow_succ, Nat.mul_assoc, Nat.mul_comm (num (l.take (e - 9))) (10 ^ 9)]
    show _ = V + (1000000000 ^ t * (1000000000 * num (l.take (e - 9))) + _)
    omega
end M
theorem cutP_n (l : List UInt8) (w : World) : Calls Tryd.prog 43 #[str l, .string ⟨#[40, 45, 32]⟩] w fun e w' => e = .returned (.tuple #[str (Lib.trimPrefix l [40, 45, 32]), .bool (Lib.hasPrefix l [40, 45, 32])]) ∧ w' = w :=
  Tryd.strings_CutPrefix ⟨l.toArray⟩ ⟨#[40, 45, 32]⟩ w
theorem cutS_n (l : List UInt8) (w : World) (hl : l.length ≤ 1000000000000) : Calls Tryd.prog 44 #[str l, .string ⟨#[41]⟩] w fun e w' => e = .returned (.tuple #[str (Lib.trimSuffix l [41]), .bool (Lib.hasSuffix l [41])]) ∧ w' = w :=
  Tryd.strings_CutSuffix ⟨l.toArray⟩ ⟨#[41]⟩ w (by rw [Lib.size_eq]; simp; omega)
theorem inside_n (l : List UInt8) (w : World) (hl : l.length ≤ 1000000000000) : Calls Tryd.prog 25 #[str l] w fun e w' => e = .returned (.tuple #[str (M.inside l).1, .bool (M.inside l).2]) ∧ w' = w := by
  obtain ⟨r, hr⟩ : ∃ r, r = Lib.trimPrefix l [40, 45, 32] := ⟨_, rfl⟩
  obtain ⟨q, hq⟩ : ∃ q, q = Lib.trimSuffix r [41] := ⟨_, rfl⟩
  obtain ⟨o, ho⟩ : ∃ o, o = Lib.hasPrefix l [40, 45, 32] := ⟨_, rfl⟩
  obtain ⟨c, hc⟩ : ∃ c, c = Lib.hasSuffix r [41] := ⟨_, rfl⟩
  have h1 := cutP_n l
  rw [← hr, ← ho] at h1
  have h2 := fun w => cutS_n r w (by rw [hr]; exact Nat.le_trans (Lib.trimPrefix_le _ _) hl)
  rw [← hq, ← hc] at h2
  have e : M.inside l = if (o && c) = true then (q, true) else (l, false) := by unfold M.inside; rw [← hr, ← ho, ← hc, ← hq]
  have H1 := hid h1
  have H2 := hid h2
  rw [e]
  clear hr hq ho hc h1 h2 e
  cases o <;> cases c
  all_goals
    go_enter Tryd.func25, Tryd.ntmps25
    go_wp2_with (first | (go_at_call 43; refine (H1.out _).mono ?_; rintro e w' ⟨rfl, rfl⟩) | (go_at_call 44; refine (H2.out _).mono ?_; rintro e w' ⟨rfl, rfl⟩))
    go_ret2
    exact ⟨rfl, rfl⟩
set_option maxHeartbeats 1000000 in
theorem limbOf_n (l : List UInt8) (hd : l.all M.digit = true) (hl : l.length ≤ 9) (w : World) : Calls Tryd.prog 45 #[str l] w fun e w' => e = .returned (.int .u32 (M.num l : Int)) ∧ w = w' := by
  obtain ⟨n, hn⟩ : ∃ n, n = l.length := ⟨_, rfl⟩
  have HN := hid hn
  have HD := hid hd
  have hn9 : n ≤ 9 := by omega
  have hsz : (l.length : Int) = (n : Int) := by rw [hn]
  clear hn hd hl
  go_enter Tryd.func45, Tryd.ntmps45
  go_wp2
  go_loop [3, 7] (fun x i => ∃ (k : Nat) (a : Nat), k ≤ n ∧ i = .int .i64 (k : Int) ∧ x = .int .u32 (a : Int) ∧ Hid (a = M.num (l.take k))) (fun _ i => n - (intOf i).toNat)
  case atStart => exact ⟨0, 0, Nat.zero_le _, rfl, rfl, rfl⟩
  case round =>
    obtain ⟨k, a, hk, rfl, rfl, ha⟩ := hrel
    rcases Nat.lt_or_ge k n with hlt | hge
    · obtain ⟨c, hc⟩ : ∃ c, l[k]? = some c := ⟨_, List.getElem?_eq_getElem (by rw [← HN.out]; exact hlt)⟩
      have HC := hid hc
      have hidx := idx_str 9 Tryd.underlying9 l k c rfl hc
      have hcd : 48 ≤ c.toNat ∧ c.toNat ≤ 57 := by
        have := List.all_eq_true.1 HD.out c (List.mem_of_getElem? hc)
        simpa [M.digit] using this
      have ha9 : a < 100000000 := by
        have h1 := M.num_lt (l := l.take k) (List.all_eq_true.2 fun x hx => List.all_eq_true.1 HD.out x (List.mem_of_mem_take hx))
        rw [← ha.out, List.length_take] at h1
        exact Nat.lt_of_lt_of_le h1 (show 10 ^ min k l.length ≤ 10 ^ 8 from Nat.pow_le_pow_right (by decide) (by omega))
      obtain ⟨d, hdd⟩ : ∃ d : Nat, d = c.toNat - 48 := ⟨_, rfl⟩
      have q1 : IntKind.u8.wrap ((c.toNat : Int) - 48) = (d : Int) := by rw [IntKind.wrap_u8]; omega
      have q2 : IntKind.u32.wrap (d : Int) = (d : Int) := by rw [IntKind.wrap_u32]; omega
      have q3 : IntKind.u32.wrap ((a : Int) * 10) = ((a * 10 : Nat) : Int) := by rw [IntKind.wrap_u32]; omega
      have q4 : IntKind.u32.wrap (((a * 10 : Nat) : Int) + (d : Int)) = ((a * 10 + d : Nat) : Int) := by rw [IntKind.wrap_u32]; omega
      have HDD := hid hdd
      have hlt' : (k : Int) < (n : Int) := by omega
      have HB := hid (show a * 10 + d < 4294967296 by omega)
      clear hc hcd hdd ha9
      go_wp2
      go_round
      case rel => exact ⟨k + 1, a * 10 + d, by omega, by simp, congrArg (Value.int .u32) (by have := HB.out; omega), by show _ = _; rw [M.num_take HC.out, ← ha.out, ← HDD.out]⟩
      case measure => simp [intOf]; all_goals omega
    · obtain rfl : k = n := by omega
      have hx := ha.out
      rw [HN.out, List.take_length] at hx
      subst hx
      go_wp2
      go_ret
      exact ⟨rfl, rfl⟩
namespace M
/-- What the loop over the chunks keeps. -/
def Chunks (l : List UInt8) (zs : List Nat) (z : Int) : Prop := z = (l.length : Int) - 9 * (zs.length : Int) ∧ small zs = true ∧ val zs + 1000000000 ^ zs.length * num (l.take z.toNat) = num l ∧ (z ≤ 0 → zs.getLast? ≠ some 0)
theorem Chunks.start {l : List UInt8} (h : l ≠ []) {z : Int} (hz : z = (l.length : Int)) : Chunks l [] z := by
  subst hz
  refine ⟨by simp, rfl, by simp [val], fun h0 => ?_⟩
  exfalso; exact h (List.eq_nil_of_length_eq_zero (by omega))
theorem Chunks.step {b : UInt8} {r : List UInt8} (hd : (b :: r).all digit = true) (hb : b.toNat ≠ 48) {zs : List Nat} {e : Nat} (h : Chunks (b :: r) zs (e : Int)) (he : 0 < e) {x : Nat} (hx : x = num (((b :: r).drop (e - 9)).take (e - (e - 9)))) :
    x < 1000000000 ∧ Chunks (b :: r) (zs ++ [x]) ((e : Int) - 9) := by
  obtain ⟨h1, h2, h3, h4⟩ := h
  have hel : e ≤ (b :: r).length := by omega
  have hx9 : x < 1000000000 := by
    have h5 := num_lt (all_part hd (e - 9) (e - (e - 9)))
    rw [← hx] at h5
    refine Nat.lt_of_lt_of_le h5 (show _ ≤ 10 ^ 9 from Nat.pow_le_pow_right (by decide) ?_)
    rw [List.length_take]; omega
  refine ⟨hx9, by rw [List.length_append, List.length_singleton, h1]; omega, by rw [small_append]; exact ⟨h2, by simp [small]; omega⟩, ?_, fun h0 => ?_⟩
  · have h5 := chunk hel he (V := val zs) (t := zs.length) (by rw [← h3]; simp)
    rw [← hx] at h5
    rw [val_snoc, List.length_append, List.length_singleton, show ((e : Int) - 9).toNat = e - 9 by omega]
    exact h5
  · have hl : (zs ++ [x]).getLast? = some x := by simp
    rw [hl, ne_eq, Option.some.injEq]
    have h9 : e - 9 = 0 := by omega
    rw [h9, List.drop_zero] at hx
    obtain ⟨j, hj⟩ : ∃ j, e - 0 = j + 1 := ⟨e - 1, by omega⟩
    rw [hj, List.take_succ_cons] at hx
    have hdb : digit b = true := by rw [List.all_cons, Bool.and_eq_true] at hd; exact hd.1
    have := num_pos (r := r.take j) hb hdb
    omega
theorem Chunks.done {l : List UInt8} {zs : List Nat} {z : Int} (h : Chunks l zs z) (hz : z ≤ 0) : zs = limbs (num l) ∧ zs.length ≤ (num l) + zs.length := by
  obtain ⟨h1, h2, h3, h4⟩ := h
  refine ⟨?_, by omega⟩
  rw [show z.toNat = 0 by omega] at h3
  have : val zs = num l := by rw [← h3]; simp [num]
  rw [← this]
  exact (limbs_val h2 (h4 hz)).symm
end M
set_option maxHeartbeats 4000000 in
set_option maxRecDepth 100000 in
theorem row_p (b : UInt8) (r : List UInt8) (hd : (b :: r).all M.digit = true) (hb : b.toNat ≠ 48) (hr : r.length ≤ 1000000) (w : World) : Calls Tryd.prog 26 #[str (b :: r)] w (GivesN w (M.num (b :: r)) ((r.length + 9) / 9)) := by
  have hq2 : (b == 48) = false := by rw [Bool.eq_false_iff]; intro h; rw [beq_iff_eq] at h; subst h; exact hb rfl
  obtain ⟨m, hm⟩ : ∃ m, m = (r.length + 9) / 9 := ⟨_, rfl⟩
  rw [← hm]
  have hmk := make_u32 .i64 .i64 0 (((r.length : Int) + 1 + 9 - 1) / 9) 0 m rfl (by omega) (Nat.zero_le _) (by omega)
  have HD := hid hd
  have HB := hid hb
  have HM := hid hm
  have hm9 : m ≤ 1000000 := by omega
  clear hd hb hm
  go_enter Tryd.func26, Tryd.ntmps26
  go_wp2
  go_loopw [3, 4] (fun o i wr => ∃ (zs : List Nat) (z : Int), i = .int .i64 z ∧ Hid (M.Chunks (b :: r) zs z) ∧ -9 < z ∧ z ≤ (r.length : Int) + 1 ∧ Own w.heap.size wr o zs ∧ Ext w wr) (fun _ i _ => (intOf i).toNat)
  case atStart => exact ⟨[], (r.length : Int) + 1, rfl, M.Chunks.start (by simp) (by simp), by omega, by omega, Own.made w (zeros m) m w.heap.size (Nat.le_refl _) (by unfold maxLen; omega) (by simp [zeros]), Ext.alloc _ _⟩
  case round =>
    obtain ⟨zs, z, rfl, hch, hz1, hz2, hown, hext⟩ := hrel
    have HO := hid hown
    have HX := hid hext
    clear hown hext
    rcases (by omega : z ≤ 0 ∨ 0 < z) with hz | hz
    · have hq : decide (0 < z) = false := by simp; omega
      obtain ⟨h5, -⟩ := hch.out.done hz
      have HZ := hid h5
      clear h5
      go_wp2
      go_ret
      refine ⟨_, rfl, ⟨by rw [← HZ.out]; exact HO.out.num, ?_⟩, HX.out⟩
      rw [← HZ.out]
      obtain ⟨h6, -⟩ := hch.out
      have := HM.out
      simp at h6
      omega
    · obtain ⟨e, rfl⟩ : ∃ e : Nat, z = (e : Int) := ⟨z.toNat, by omega⟩
      obtain ⟨a, ha⟩ : ∃ a, a = e - 9 := ⟨_, rfl⟩
      obtain ⟨x, hx⟩ : ∃ x, x = M.num (((b :: r).drop (e - 9)).take (e - (e - 9))) := ⟨_, rfl⟩
      obtain ⟨hx9, hch2⟩ := hch.out.step HD.out HB.out (by omega) hx
      have hmax : max ((e : Int) - 9) 0 = (a : Int) := by omega
      have hlimb : ∀ w, Calls Tryd.prog 45 #[.string ((⟨(b :: r).toArray⟩ : ByteArray).extract a e)] w fun e w' => e = .returned (.int .u32 (x : Int)) ∧ w = w' := by
        intro w
        rw [ext_str, ha, hx]
        exact limbOf_n _ (M.all_part HD.out _ _) (by rw [List.length_take]; omega) w
      have HCH := hid hch2
      have hza : a ≤ e := by omega
      have hq : (0 < (e : Int)) := hz
      have hel : (e : Int) ≤ (r.length : Int) + 1 := hz2
      clear hch hch2 hx ha
      have hzl : zs.length ≤ 1000000 := by
        obtain ⟨h6, _⟩ := HCH.out
        simp at h6; omega
      go_wp2_with (first | (go_at_call 45; refine (hlimb _).mono ?_; rintro e' w' ⟨rfl, rfl⟩) | (at_builtin; refine wpList_app1 rfl (.tmp 19) (.tmp 27) rfl w.heap.size _ zs rfl (HO.out.alloc _) wr.heap.size x rfl ?c1 ?c3 ?c4 ?c5 ?_))
      case c1 => simp [go_sem]
      case c3 => omega
      case c4 => omega
      case c5 => have := HX.out.size; simp; omega
      intro v' w' hown' hgrow
      have HO' := hid hown'
      have HG := hid hgrow
      clear hown' hgrow
      go_wp2
      go_roundw
      case rel =>
        refine ⟨_, _, rfl, HCH.out, by omega, by omega, HO'.out, ?_⟩
        have hz := HX.out.size
        exact (HX.out.trans (Ext.alloc _ _)).below.trans ((HO.out.alloc _).below HG.out (Nat.le_refl _) (by simp; omega))
      case measure => simp [intOf]; all_goals omega
theorem row_n {l : List UInt8} (hn : M.numeral l = true) (hl : l.length ≤ 1000000) (w : World) : Calls Tryd.prog 26 #[str l] w (GivesN w (M.num l) ((l.length + 8) / 9)) := by
  rcases l with _ | ⟨b, r⟩
  · simp [M.numeral] at hn
  · by_cases hb : b.toNat = 48
    · obtain rfl : b = 48 := UInt8.toNat_inj.1 hb
      obtain rfl : r = [] := by simpa [M.numeral] using hn
      go_enter Tryd.func26, Tryd.ntmps26
      go_wp2
      go_ret
      refine ⟨_, rfl, ⟨?_, ?_⟩, Ext.refl _⟩
      · rw [show M.num [48] = 0 from rfl, M.limbs_zero]; exact Num.nil _ _
      · rw [show M.num [48] = 0 from rfl, M.limbs_zero]; simp
    · simp only [M.numeral, if_neg hb] at hn
      have := row_p b r hn hb (by simp at hl; omega) w
      rw [show r.length + 9 = (b :: r).length + 8 by simp] at this
      exact this
end Go.Proofs.YthlafkbldlmmaaaDoor
