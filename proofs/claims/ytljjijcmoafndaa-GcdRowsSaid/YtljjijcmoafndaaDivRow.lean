/-
  Contracts: the steps of dividing by a row: a row taken away so many times in place, put back in place.
-/
import Derived.Test.YtljjijcmoafndaaDivLimb
import Derived.Test.YtljjijcmoafndaaDivMath
namespace Go.Proofs.Ytljjijcmoafndaa
set_option linter.unusedSimpArgs false
set_option linter.unusedVariables false
open Go.RowKit

/-- Of what was there only block g has turned. -/
def Only (g : Nat) (w w' : World) : Prop := w.grownBy w' (some g)
theorem Only.refl (g : Nat) (w : World) : Only g w w := World.grownBy.refl w _
theorem Only.trans {g : Nat} {a b c : World} (h : Only g a b) (k : Only g b c) : Only g a c :=
  ⟨k.os.trans h.os, k.tape.trans h.tape, k.output.trans h.output, Nat.le_trans h.size k.size, fun i hi hne => (k.block i (Nat.lt_of_lt_of_le hi h.size) hne).trans (h.block i hi hne)⟩
theorem Only.setCell {g : Nat} {a w : World} (h : Only g a w) (i : Nat) (u : Value) : Only g a (w.setCell ⟨g, i, none⟩ u) :=
  ⟨h.os, h.tape, h.output, by simpa [World.setCell] using h.size, fun k hk hne => (Below.heap_setCell w ⟨g, i, none⟩ u k (fun e => hne (by rw [e]))).trans (h.block k hk hne)⟩
theorem Only.drewN {g : Nat} {a w : World} (h : Only g a w) (n : Nat) : Only g a (w.drewN n) := ⟨h.os, h.tape, h.output, h.size, h.block⟩
theorem Only.below {g : Nat} {a w : World} (h : Only g a w) {C : Nat} (hC : C ≤ g) (hg : g < a.heap.size) : Below C a w :=
  ⟨h.os, h.tape, h.output, h.size, fun k hk => h.block k (by omega) (fun e => by injection e with e; omega)⟩
theorem Only.blk {g : Nat} {a w : World} (h : Only g a w) {k : Nat} {l : List Nat} (hb : Blk a k l) (hne : k ≠ g) : Blk w k l :=
  (h.block k hb.lt (fun e => hne (by injection e))).trans hb

theorem ret_two {j k : IntKind} {a b c d : Int} (h1 : a = c) (h2 : b = d) : Ending.returned (.tuple #[.int j a, .int k b]) = Ending.returned (.tuple #[.int j c, .int k d]) := by rw [h1, h2]
theorem less_any (x t : Nat) (hx : (x : Int) < 1000000000) (ht : (t : Int) ≤ 1000000000000000000) (w : World) :
    Calls Try.prog 99 #[.int .u32 (x : Int), .int .u64 (t : Int)] w fun e w' => e = .returned (.tuple #[.int .u32 (M.lessD x t : Int), .int .u64 (M.lessC x t : Int)]) ∧ w = w' := by
  obtain ⟨d, hd⟩ : ∃ d, d = t % 1000000000 := ⟨_, rfl⟩
  obtain ⟨h, hh⟩ : ∃ h, h = t / 1000000000 := ⟨_, rfl⟩
  have hdI : (t : Int) % 1000000000 = (d : Int) := by omega
  have hhI : (t : Int) / 1000000000 = (h : Int) := by omega
  have hd9 : (d : Int) < 1000000000 := by omega
  have hh9 : (h : Int) ≤ 1000000000 := by omega
  have HD := hid hd
  have HH := hid hh
  clear hd hh
  by_cases hlt : x < d
  · go_enter Try.func99, Try.ntmps99
    go_wp2
    go_ret2
    exact ⟨ret_two (by unfold M.lessD; rw [← HD.out, if_pos hlt]; omega) (by unfold M.lessC; rw [← HD.out, ← HH.out, if_pos hlt]; omega), rfl⟩
  · go_enter Try.func99, Try.ntmps99
    go_wp2
    go_ret2
    exact ⟨ret_two (by unfold M.lessD; rw [← HD.out, if_neg hlt]; omega) (by unfold M.lessC; rw [← HD.out, ← HH.out, if_neg hlt]), rfl⟩

/-- What 'takeAway' leaves in block g: the segment less T times b, and whether something was lacking. -/
def Took (w : World) (g : Nat) (pre s post : List Nat) (T b : Nat) (e : Ending) (w' : World) : Prop :=
  ∃ (s' : List Nat) (c : Nat), e = .returned (.bool (decide (0 < c))) ∧ Blk w' g (pre ++ s' ++ post) ∧ s'.length = s.length ∧ M.small s' = true ∧ M.val s' + T * b = M.val s + 1000000000 ^ s.length * c ∧ Only g w w'

theorem takeAway_any (w : World) (g o n cp T : Nat) (v : Value) (m pre s post : List Nat) {C : Nat} (hv : Num w C v m) (hC : C ≤ g) (hm : Hid (M.small m = true)) (hn : n = m.length) (hn9 : n ≤ 100000000) (ho9 : o ≤ 100000000) (hT : (T : Int) ≤ 1000000000)
    (hblk : Blk w g (pre ++ s ++ post)) (ho : Hid (pre.length = o)) (hsl : Hid (s.length = n + 1)) (hss : Hid (M.small s = true)) :
    Calls Try.prog 94 #[.slice (some ⟨g, o, none⟩) (n + 1) cp, v, .int .u64 (T : Int)] w (Took w g pre s post T (M.val m)) := by
  obtain ⟨A', n', c', rfl, hn', hc', hm', hs', hr'⟩ := hv
  obtain rfl : n' = n := by omega
  have HR' := hid hr'
  have HN' := hid hn'
  have HS' := hid (M.small_iff.1 hm.out)
  have HG := hid hblk.lt
  have HBL0 := hid hblk
  clear hn hr' hn' hs' hm' hc' hblk
  go_enter Try.func94, Try.ntmps94
  go_wp2
  go_loopw [7, 12] (fun sc si wr => ∃ (i c : Nat) (s' : List Nat), i ≤ n' ∧ si = .int .i64 (i : Int) ∧ sc = .int .u64 (c : Int) ∧ c ≤ 1000000000 ∧ s'.length = n' + 1 ∧ M.small s' = true ∧ Blk wr g (pre ++ s' ++ post) ∧ Only g w wr ∧
    M.val s' + T * M.val (m.take i) = M.val s + 1000000000 ^ i * c) (fun _ si _ => n' - (intOf si).toNat)
  case atStart => exact ⟨0, 0, s, Nat.zero_le _, rfl, rfl, by omega, hsl.out, hss.out, HBL0.out, Only.refl _ _, by simp [M.val]⟩
  case round =>
    obtain ⟨i, c, s', hi, rfl, rfl, hc9, hs'l, hs's, hblk, honly, hval⟩ := hrel
    have HSL := hid hs'l
    have HSS := hid hs's
    have HBL := hid hblk
    have HO := hid honly
    have HV := hid hval
    clear hs'l hs's hblk honly hval
    have hil : i < s'.length := by rw [HSL.out]; omega
    obtain ⟨x, hx⟩ : ∃ x, s'[i]? = some x := ⟨_, List.getElem?_eq_getElem hil⟩
    have hx9 := M.small_iff.1 HSS.out x (List.mem_of_getElem? hx)
    have hoc := HBL.out.cell (i := o + i) (by rw [M.mid_get ho.out hil]; exact hx)
    have hof := HBL.out.frozen (o + i)
    have HX := hid hx
    have HIL := hid hil
    clear hx hil
    by_cases hlt : i < n'
    · obtain ⟨ad', y, rfl, had', HY, hcell'⟩ := (HR'.out.keep (HO.out.below hC HG.out) (Nat.le_refl _)).get (k := i) (by rw [← HN'.out]; exact hlt)
      have hy9 := HS'.out y (List.mem_of_getElem? HY.out)
      obtain ⟨p, hp⟩ : ∃ p, p = T * y := ⟨_, rfl⟩
      have hpI : (T : Int) * (y : Int) = (p : Int) := by rw [hp]; simp
      have hp9 : p ≤ 999999999000000000 := by rw [hp]; exact Nat.mul_le_mul (show T ≤ 1000000000 by omega) (show y ≤ 999999999 by omega)
      obtain ⟨t, ht⟩ : ∃ t, t = c + p := ⟨_, rfl⟩
      have htI : (c : Int) + (p : Int) = (t : Int) := by omega
      have ht9 : (t : Int) ≤ 1000000000000000000 := by omega
      have HP := hid hp
      have HT := hid ht
      clear hp ht
      go_wp2_with fail
      refine (less_any x t (by omega) ht9 _).mono ?_
      rintro e w' ⟨rfl, rfl⟩
      go_wp2
      go_roundw
      case rel =>
        refine ⟨i + 1, M.lessC x t, s'.set i (M.lessD x t), by omega, by go_num, rfl, M.lessC_le (by omega), by rw [List.length_set]; exact HSL.out, M.small_set' HSS.out (M.lessD_lt hx9), ?_, HO.out.setCell _ _, ?_⟩
        · rw [← M.mid_set ho.out HIL.out]; exact HBL.out.put _ rfl
        · rw [M.val_take HY.out, M.take_mul HP.out, Nat.pow_succ]
          exact M.take_step HV.out (M.val_set_at HX.out _) M.less_eq HT.out HP.out
      case measure => simp [intOf]; all_goals omega
    · obtain rfl : i = n' := by omega
      go_wp2_with fail
      refine (less_any x c (by omega) (by omega) _).mono ?_
      rintro e w' ⟨rfl, rfl⟩
      go_wp2
      go_ret
      refine ⟨s'.set i (M.lessD x c), M.lessC x c, ?_, ?_, by rw [List.length_set, HSL.out, hsl.out], M.small_set' HSS.out (M.lessD_lt hx9), ?_, HO.out.setCell _ _⟩
      · exact ret_bool (by simp)
      · rw [← M.mid_set ho.out HIL.out]; exact HBL.out.put _ rfl
      · have h1 := HV.out
        rw [List.take_of_length_le (by rw [← HN'.out]; exact Nat.le_refl _)] at h1
        have h2 := M.take_step (p := 0) (T := 0) (y := 0) (t := c) h1 (M.val_set_at HX.out (M.lessD x c)) M.less_eq rfl rfl
        rw [hsl.out, Nat.pow_succ]
        simpa using h2

/-- What 'putBack' leaves: the segment and b together, without what is carried beyond it. -/
def Backed (w : World) (g : Nat) (pre s post : List Nat) (b : Nat) (e : Ending) (w' : World) : Prop :=
  ∃ (s' : List Nat) (c : Nat), e = .returned (.tuple #[]) ∧ Blk w' g (pre ++ s' ++ post) ∧ s'.length = s.length ∧ M.small s' = true ∧ c ≤ 1 ∧ M.val s' + 1000000000 ^ s.length * c = M.val s + b ∧ Only g w w'

theorem putBack_any (w : World) (g o n cp : Nat) (v : Value) (m pre s post : List Nat) {C : Nat} (hv : Num w C v m) (hC : C ≤ g) (hm : Hid (M.small m = true)) (hn : n = m.length) (hn9 : n ≤ 100000000) (ho9 : o ≤ 100000000)
    (hblk : Blk w g (pre ++ s ++ post)) (ho : Hid (pre.length = o)) (hsl : Hid (s.length = n + 1)) (hss : Hid (M.small s = true)) :
    Calls Try.prog 95 #[.slice (some ⟨g, o, none⟩) (n + 1) cp, v] w (Backed w g pre s post (M.val m)) := by
  obtain ⟨A', n', c', rfl, hn', hc', hm', hs', hr'⟩ := hv
  obtain rfl : n' = n := by omega
  have HR' := hid hr'
  have HN' := hid hn'
  have HS' := hid (M.small_iff.1 hm.out)
  have HG := hid hblk.lt
  have HBL0 := hid hblk
  clear hn hr' hn' hs' hm' hc' hblk
  go_enter Try.func95, Try.ntmps95
  go_wp2
  go_loopw [4, 9] (fun sc si wr => ∃ (i c : Nat) (s' : List Nat), i ≤ n' + 1 ∧ si = .int .i64 (i : Int) ∧ sc = .int .u32 (c : Int) ∧ c ≤ 1 ∧ s'.length = n' + 1 ∧ M.small s' = true ∧ Blk wr g (pre ++ s' ++ post) ∧ Only g w wr ∧
    M.val s' + 1000000000 ^ i * c = M.val s + M.val (m.take i)) (fun _ si _ => n' + 1 - (intOf si).toNat)
  case atStart => exact ⟨0, 0, s, Nat.zero_le _, rfl, rfl, by omega, hsl.out, hss.out, HBL0.out, Only.refl _ _, by simp [M.val]⟩
  case round =>
    obtain ⟨i, c, s', hi, rfl, rfl, hc9, hs'l, hs's, hblk, honly, hval⟩ := hrel
    have HSL := hid hs'l
    have HSS := hid hs's
    have HBL := hid hblk
    have HO := hid honly
    have HV := hid hval
    clear hs'l hs's hblk honly hval
    by_cases hlt1 : i < n' + 1
    · have hil : i < s'.length := by rw [HSL.out]; omega
      obtain ⟨x, hx⟩ : ∃ x, s'[i]? = some x := ⟨_, List.getElem?_eq_getElem hil⟩
      have hx9 := M.small_iff.1 HSS.out x (List.mem_of_getElem? hx)
      have hoc := HBL.out.cell (i := o + i) (by rw [M.mid_get ho.out hil]; exact hx)
      have hof := HBL.out.frozen (o + i)
      have HX := hid hx
      have HIL := hid hil
      clear hx hil
      by_cases hlt : i < n'
      · obtain ⟨ad', y, rfl, had', HY, hcell'⟩ := (HR'.out.keep (HO.out.below hC HG.out) (Nat.le_refl _)).get (k := i) (by rw [← HN'.out]; exact hlt)
        have hy9 := HS'.out y (List.mem_of_getElem? HY.out)
        go_wp2
        go_roundw
        case rel =>
          refine ⟨i + 1, (x + c + y) / 1000000000, s'.set i ((x + c + y) % 1000000000), by omega, by go_num, by congr 1, by omega, by rw [List.length_set]; exact HSL.out, M.small_set' HSS.out (by omega), ?_, HO.out.setCell _ _, ?_⟩
          · rw [← M.mid_set ho.out HIL.out]; exact HBL.out.put _ (by omega)
          · rw [M.val_take HY.out, Nat.pow_succ]
            exact M.back_step HV.out (M.val_set_at HX.out _) (by omega)
        case measure => simp [intOf]; all_goals omega
      · have hin : i = n' := by omega
        have HIN := hid hin
        clear hin
        go_wp2
        go_roundw
        case rel =>
          refine ⟨i + 1, (x + c) / 1000000000, s'.set i ((x + c) % 1000000000), by omega, by go_num, by congr 1, by omega, by rw [List.length_set]; exact HSL.out, M.small_set' HSS.out (by omega), ?_, HO.out.setCell _ _, ?_⟩
          · rw [← M.mid_set ho.out HIL.out]; exact HBL.out.put _ (by omega)
          · rw [M.val_take_over (by rw [← HN'.out]; have := HIN.out; omega), Nat.pow_succ]
            exact M.back_step HV.out (M.val_set_at HX.out _) (by omega)
        case measure => simp [intOf]; all_goals omega
    · have hin : i = n' + 1 := by omega
      have HIN := hid hin
      clear hin
      go_wp2
      go_end0
      refine ⟨s', c, rfl, HBL.out, by rw [HSL.out, hsl.out], HSS.out, hc9, ?_, HO.out⟩
      have h1 := HV.out
      rw [List.take_of_length_le (by rw [← HN'.out]; have := HIN.out; omega), HIN.out] at h1
      rw [hsl.out]; exact h1
end Go.Proofs.Ytljjijcmoafndaa
