/-
  WHAT: words that were read are printed and read again; what is told of a beginning of a text is told of it (LexBack).
  FOR EVERY INPUT: no condition.
-/
import Derived.Test.YtmnchlikhbendaaQLaw
import Derived.Test.YtmnchlikhbendaaQBackM
import Derived.Test.YtmnchlikhbendaaQHeld
namespace Go.Proofs.Ytmnchlikhbendaa
set_option linter.unusedSimpArgs false
set_option linter.unusedVariables false
open Go.ChangeShapes Go.WideShapes Go.ChangeAt Go.RowKit

namespace M
theorem back_text {s : List UInt8} (hs : s.length ≤ 1500) {ts : List Tok} (h : scan s = (ts, none)) : (print ts).length ≤ 3000 ∧ wToks (print ts) = ts ∧ wErr (print ts) = 0 := by
  obtain ⟨h1, h2⟩ := scan_ok s
  rw [h] at h1 h2
  have hl : (print ts).length ≤ 3000 := by
    simp only at h2
    split at h2 <;> omega
  have := w_done (s := print ts) (by omega) (scan_print h1)
  exact ⟨hl, this.1, this.2.2⟩
theorem wErr_is (s : List UInt8) (hs : s.length ≤ 4000) : (wErr s = 0 ∧ wToks s = (scan s).1 ∧ (scan s).2 = none) ∨ wErr s = 14 := by
  rcases h : (M.scan s).2 with _ | m
  · left
    have := w_done (s := s) (ts := (M.scan s).1) hs (by rw [← h])
    exact ⟨this.2.2, this.1, rfl⟩
  · right
    unfold wErr
    rw [if_neg (by omega), h]
theorem first_le {s : List UInt8} (hs : s.length ≤ 1500) {ts : List Tok} (h : scan s = (ts, none)) (c : Nat) : (wErr (s.take c) = 0 ∧ (wToks (s.take c)).length ≤ ts.length) ∨ wErr (s.take c) = 14 := by
  have hl : (s.take c).length ≤ 4000 := by rw [List.length_take]; omega
  rcases wErr_is (s.take c) hl with ⟨h1, h2, h3⟩ | h1
  · left
    refine ⟨h1, ?_⟩
    have := scan_take s c h3 (by rw [h])
    rw [h2]
    rw [h] at this
    exact this
  · exact .inr h1
theorem words_len {s : List UInt8} {ts : List Tok} (h : scan s = (ts, none)) : ts.length ≤ 2 * s.length + 1 := by
  have h2 := (scan_ok s).2
  rw [h] at h2
  have key : ∀ ts : List Tok, ts.length ≤ (print ts).length + 1 := by
    intro ts
    cases ts with
    | nil => simp
    | cons t r =>
      have : r.length ≤ ((r.map fun x => 32 :: word x).flatten).length := by
        induction r with
        | nil => simp
        | cons x q ih => rw [List.map_cons, List.flatten_cons, List.length_append, List.length_cons, List.length_cons]; omega
      rw [print, List.length_append, List.length_cons]; omega
  have := key ts
  simp only at h2
  split at h2 <;> omega
end M
/-- Each round's region, by the word's kind. -/
def Rest (W wr : World) (v : Value) (ts : List M.Tok) : Prop := TList wr v ts ∧ Ext W wr
set_option maxHeartbeats 16000000 in
set_option maxRecDepth 100000 in
theorem lexBack_walk (W : World) (s : List UInt8) (a : Int) (ha : 0 ≤ a ∧ a ≤ 65535) : Calls Try.prog 4 #[str s, .int .u16 a] W (GivesB W true) := by
  have hsz : (⟨s.toArray⟩ : ByteArray).size = s.length := by rw [Lib.size_eq]
  obtain ⟨ha0, ha1⟩ := ha
  rcases Nat.lt_or_ge 1500 s.length with hl | hl
  · have hq : 1500 < (s.length : Int) := by omega
    go_enter Try.func4, Try.ntmps4
    go_wp2_with fail
    refine (known_n _).mono ?_
    rintro e w1 ⟨rfl, hb⟩
    have E := hid hb
    clear hb
    go_wp2
    go_ret
    exact ⟨rfl, E.out⟩
  obtain ⟨S, hS⟩ : ∃ S, S = s.length := ⟨_, rfl⟩
  have HSL := hid hS
  have hsS : (s.length : Int) = (S : Int) := by rw [hS]
  have hS5 : S ≤ 1500 := by omega
  have hq : decide (1500 < (S : Int)) = false := by simp; omega
  rcases hsc : (M.scan s).2 with _ | m
  · obtain ⟨ts, hts⟩ : ∃ ts, (M.scan s).1 = ts := ⟨_, rfl⟩
    have hscan : M.scan s = (ts, none) := by rw [← hsc, ← hts]
    obtain ⟨d1, d2, d3⟩ := M.w_done (by omega) hscan
    have HW := hid (fun w => words_n s (by omega) w)
    rw [d1, d2, d3] at HW
    obtain ⟨pr, hpr⟩ : ∃ pr, M.print ts = pr := ⟨_, rfl⟩
    have hb := M.back_text hl hscan
    rw [hpr] at hb
    have HW2 := hid (fun w => words_n pr (by omega) w)
    obtain ⟨k2, hk2⟩ : ∃ k2, M.wAt pr = k2 := ⟨_, rfl⟩
    rw [hb.2.1, hb.2.2, hk2] at HW2
    have hok := (M.scan_ok s).1
    rw [hts] at hok
    have HOK := hid hok
    have htx : ∀ t ∈ ts, t.2.length ≤ 1000000000 := fun t ht => by
      obtain ⟨k, hk, hkt⟩ := List.mem_iff_getElem.1 ht
      have h5 := M.word_len (List.getElem?_eq_some_iff.2 ⟨hk, hkt⟩)
      rw [hpr] at h5
      have h6 : t.2.length ≤ (M.word t).length := by
        rcases hok t ht with ⟨h7, h8⟩ | ⟨h7, h8⟩ | ⟨h7, h8⟩ | ⟨h7, h8⟩ | ⟨h7, h8⟩
        · rw [h8]; exact Nat.zero_le _
        · rw [h8]; exact Nat.zero_le _
        · simp [M.word, h7]
        · simp [M.word, h7]
        · simp [M.word, h7]
      omega
    have HTX := hid htx
    have HPL := hid hb.1
    have HPR := hid hpr
    have htl := M.words_len hscan
    obtain ⟨n, hn⟩ : ∃ n, n = ts.length := ⟨_, rfl⟩
    have HN := hid hn
    have hn9 : n ≤ 1000000 := by omega
    have HSC := hid hscan
    clear hsc hts d1 d2 d3 hpr hb hk2 hok htx htl hn hscan hS
    go_enter Try.func4, Try.ntmps4
    go_wp2_with fail
    refine (known_n _).mono ?_
    rintro e w1 ⟨rfl, hb⟩
    have E := hid hb
    clear hb
    go_wp2_with fail
    refine (HW.out _).mono ?_
    rintro e w2 ⟨v, rfl, hv, hb⟩
    obtain ⟨A1, c1, rfl⟩ := hv.shape
    rw [← HN.out] at hv
    rw [← HN.out, ← HSL.out]
    have HV := hid hv
    replace E := hid (E.out.trans hb)
    clear hb hv
    go_wp2_with fail
    refine (print_n HV.out (by rw [HPR.out]; have := HPL.out; omega) HTX.out).mono ?_
    rintro e w3 ⟨rfl, hb⟩
    replace HV := hid (HV.out.up hb)
    replace E := hid (E.out.trans hb)
    clear hb
    rw [HPR.out]
    go_wp2_with fail
    refine (HW2.out _).mono ?_
    rintro e w4 ⟨v, rfl, hv, hb⟩
    obtain ⟨A2, c2, rfl⟩ := hv.shape
    rw [← HN.out] at hv
    rw [← HN.out]
    replace HV := hid (HV.out.up hb)
    replace E := hid (E.out.trans hb)
    have HV2 := hid hv
    clear hb hv
    go_wp2_with fail
    refine (same_n HV.out HV2.out).mono ?_
    rintro e w5 ⟨rfl, hb⟩
    replace HV := hid (HV.out.up hb)
    replace E := hid (E.out.trans hb)
    clear hb HV2
    rw [decide_eq_true rfl]
    go_upto_region 12 with (fail)
    have hc9 : n ≤ c1 ∧ c1 ≤ 9223372036854775807 := by
      obtain ⟨A', n', c', e, h, h', h'', _⟩ := HV.out
      injection e with e1 e2 e3; subst e2 e3; unfold maxLen at h''; omega
    obtain ⟨hc8, hc9⟩ := hc9
    go_loopw [11] (fun i wr => ∃ k : Nat, k ≤ n ∧ i = .int .i64 (k : Int) ∧ Hid (Rest W wr (.slice A1 n c1) ts)) (fun i _ => n - (intOf i).toNat)
    case atStart => exact ⟨0, Nat.zero_le _, rfl, HV.out, E.out⟩
    case round =>
      obtain ⟨k, hk, rfl, hR⟩ := hrel
      rcases Nat.lt_or_ge k n with hlt | hge
      · obtain ⟨ad, t, rfl, ht, c0, c2'⟩ := TList.get hR.out.1 (k := k) (by rw [← HN.out]; exact hlt)
        have hlt' : (k : Int) < (n : Int) := by omega
        have hotk := HOK.out t (List.mem_of_getElem? ht)
        have htx9 := HTX.out t (List.mem_of_getElem? ht)
        obtain ⟨kd, x⟩ := t
        replace c0 : wr.cell? (ad.add (k * 2)) = some (.int .i64 kd) := c0
        replace c2' : wr.cell? ⟨(ad.add (k * 2)).block, (ad.add (k * 2)).off + 1, none⟩ = some (str x) := c2'
        clear ht
        rcases hotk with ⟨h7, h8⟩ | ⟨h7, h8⟩ | ⟨h7, h8⟩ | ⟨h7, h8⟩ | ⟨h7, h8⟩
        · obtain rfl : kd = 1 := h7
          obtain rfl : x = [] := h8
          go_wp2
          go_region
          go_wp2
          go_roundw
          case rel => exact ⟨k + 1, by omega, by simp, hR.out.1.up ((Ext.refl wr).drew'), hR.out.2.drew'⟩
          case measure => simp [intOf]; omega
        · obtain rfl : kd = 2 := h7
          obtain rfl : x = [] := h8
          go_wp2
          go_region
          go_wp2
          go_roundw
          case rel => exact ⟨k + 1, by omega, by simp, hR.out.1.up ((Ext.refl wr).drew'), hR.out.2.drew'⟩
          case measure => simp [intOf]; omega
        · obtain rfl : kd = 3 := h7
          obtain ⟨b, r, hbr, -⟩ := M.isNum_parts h8
          replace hbr : x = b :: r := hbr
          subst hbr
          clear h8
          go_wp2
          go_region
          go_wp2
          go_roundw
          case rel => exact ⟨k + 1, by omega, by simp, hR.out.1.up ((Ext.refl wr).drew'), hR.out.2.drew'⟩
          case measure => simp [intOf]; omega
        · obtain rfl : kd = 4 := h7
          replace h8 : M.isSym x = true := h8
          obtain ⟨b, r, hbr, -⟩ := M.isSym_parts h8
          subst hbr
          have HS := hid (fun w => symbol_n (b :: r) (by have : (b :: r).length ≤ 1000000000 := htx9; omega) w)
          rw [h8] at HS
          clear h8
          go_wp2
          refine wp_region_D [(0, 0), (1, 0), (2, 0), (3, 0), (4, 0), (5, 0), (6, 0), (7, 0), (8, 0), (9, 0), (10, 0), (11, 0), (12, 1), (13, 0), (14, 0), (15, 0), (16, 0), (17, 0), (18, 0), (19, 0), (20, 0), (21, 0), (22, 0), (23, 0), (24, 0), (25, 0), (26, 0), (27, 0), (28, 1), (29, 0), (30, 0), (31, 0), (32, 0), (33, 0), (34, 0), (35, 0), (36, 0), (37, 0), (38, 0), (39, 0), (40, 0), (41, 0), (42, 0), (43, 0), (44, 0), (45, 0), (46, 0), (47, 0), (48, 0), (49, 0), (50, 0), (51, 0), (52, 0), (53, 0), (54, 0)] fun wd hb => ?_
          have E6 := hid hb
          replace c0 := hb.cell c0
          replace c2' := hb.cell c2'
          clear hb
          refine WE.p 69 (.slice (some ad) n c1) ?_
          simp only [Act.put, pA, pB, pC]
          refine WE.p 70 (.int .i64 (k : Int)) ?_
          simp only [Act.put, pA, pB, pC]
          refine WE.p 71 (.pointer (some (ad.add (k * 2)))) ?_
          simp only [Act.put, pA, pB, pC]
          refine WE.p 72 (.pointer (some (ad.add (k * 2)))) ?_
          simp only [Act.put, pA, pB, pC]
          refine WE.q 73 (.int .i64 4) rfl (fun w' hk => by have ce := hk.cell c0; go_simp) ?_
          simp only [Act.put, pA, pB, pC]
          refine WE.p 74 (.bool true) ?_
          simp only [Act.put, pA, pB, pC]
          refine WE.p 75 (.bool true) ?_
          simp only [Act.put, pA, pB, pC]
          refine WE.p 76 (.slice (some ad) n c1) ?_
          simp only [Act.put, pA, pB, pC]
          refine WE.p 77 (.int .i64 (k : Int)) ?_
          simp only [Act.put, pA, pB, pC]
          refine WE.p 78 (.pointer (some (ad.add (k * 2)))) ?_
          simp only [Act.put, pA, pB, pC]
          refine WE.p 79 (.pointer (some ⟨(ad.add (k * 2)).block, (ad.add (k * 2)).off + 1, none⟩)) ?_
          simp only [Act.put, pA, pB, pC]
          refine WE.q 80 (str (b :: r)) rfl (fun w' hk => by have ce := hk.cell c2'; go_simp) ?_
          simp only [Act.put, pA, pB, pC]
          refine WE.c 81 ((HS.out _).mono ?_)
          rintro e w6 ⟨rfl, hb6⟩
          refine ⟨_, rfl, hb6, ?_⟩
          replace E6 := hid (E6.out.trans hb6)
          replace c0 := hb6.cell c0
          replace c2' := hb6.cell c2'
          clear hb6
          simp only [Act.put, pA, pB, pC]
          refine WE.p 82 (.bool false) ?_
          simp only [Act.put, pA, pB, pC]
          refine WE.p 83 (.bool false) ?_
          simp only [Act.put, pA, pB, pC]
          refine WE.p 84 (.bool false) ?_
          simp only [Act.put, pA, pB, pC]
          refine WE.p 85 (.slice (some ad) n c1) ?_
          simp only [Act.put, pA, pB, pC]
          refine WE.p 86 (.int .i64 (k : Int)) ?_
          simp only [Act.put, pA, pB, pC]
          refine WE.p 87 (.pointer (some (ad.add (k * 2)))) ?_
          simp only [Act.put, pA, pB, pC]
          refine WE.p 88 (.pointer (some (ad.add (k * 2)))) ?_
          simp only [Act.put, pA, pB, pC]
          refine WE.q 89 (.int .i64 4) rfl (fun w' hk => by have ce := hk.cell c0; go_simp) ?_
          simp only [Act.put, pA, pB, pC]
          refine WE.p 90 (.bool false) ?_
          simp only [Act.put, pA, pB, pC]
          refine WE.p 91 (.bool false) ?_
          simp only [Act.put, pA, pB, pC]
          refine WE.s 92 ?_
          simp only [Act.put, pA, pB, pC]
          refine WE.s 93 ?_
          simp only [Act.put, pA, pB, pC]
          refine WE.s 94 ?_
          simp only [Act.put, pA, pB, pC]
          refine WE.s 95 ?_
          simp only [Act.put, pA, pB, pC]
          refine WE.s 96 ?_
          simp only [Act.put, pA, pB, pC]
          refine WE.t 97 ?_
          simp only [Act.put, pA, pB, pC]
          refine WE.s 98 ?_
          simp only [Act.put, pA, pB, pC]
          refine WE.p 99 (.bool false) ?_
          simp only [Act.put, pA, pB, pC]
          refine WE.p 100 (.bool false) ?_
          simp only [Act.put, pA, pB, pC]
          refine WE.p 101 (.bool false) ?_
          simp only [Act.put, pA, pB, pC]
          refine WE.p 102 (.slice (some ad) n c1) ?_
          simp only [Act.put, pA, pB, pC]
          refine WE.p 103 (.int .i64 (k : Int)) ?_
          simp only [Act.put, pA, pB, pC]
          refine WE.p 104 (.pointer (some (ad.add (k * 2)))) ?_
          simp only [Act.put, pA, pB, pC]
          refine WE.p 105 (.pointer (some (ad.add (k * 2)))) ?_
          simp only [Act.put, pA, pB, pC]
          refine WE.q 106 (.int .i64 4) rfl (fun w' hk => by have ce := hk.cell c0; go_simp) ?_
          simp only [Act.put, pA, pB, pC]
          refine WE.p 107 (.bool false) ?_
          simp only [Act.put, pA, pB, pC]
          refine WE.p 108 (.bool false) ?_
          simp only [Act.put, pA, pB, pC]
          refine WE.p 109 (.slice (some ad) n c1) ?_
          simp only [Act.put, pA, pB, pC]
          refine WE.p 110 (.int .i64 (k : Int)) ?_
          simp only [Act.put, pA, pB, pC]
          refine WE.p 111 (.pointer (some (ad.add (k * 2)))) ?_
          simp only [Act.put, pA, pB, pC]
          refine WE.p 112 (.pointer (some (ad.add (k * 2)))) ?_
          simp only [Act.put, pA, pB, pC]
          refine WE.q 113 (.int .i64 4) rfl (fun w' hk => by have ce := hk.cell c0; go_simp) ?_
          simp only [Act.put, pA, pB, pC]
          refine WE.p 114 (.bool false) ?_
          simp only [Act.put, pA, pB, pC]
          refine WE.p 115 (.bool false) ?_
          simp only [Act.put, pA, pB, pC]
          refine WE.p 116 (.slice (some ad) n c1) ?_
          simp only [Act.put, pA, pB, pC]
          refine WE.p 117 (.int .i64 (k : Int)) ?_
          simp only [Act.put, pA, pB, pC]
          refine WE.p 118 (.pointer (some (ad.add (k * 2)))) ?_
          simp only [Act.put, pA, pB, pC]
          refine WE.p 119 (.pointer (some ⟨(ad.add (k * 2)).block, (ad.add (k * 2)).off + 1, none⟩)) ?_
          simp only [Act.put, pA, pB, pC]
          refine WE.q 120 (str (b :: r)) rfl (fun w' hk => by have ce := hk.cell c2'; go_simp) ?_
          simp only [Act.put, pA, pB, pC]
          refine WE.p 121 (.bool false) ?_
          simp only [Act.put, pA, pB, pC]
          refine WE.p 122 (.bool false) ?_
          simp only [Act.put, pA, pB, pC]
          refine WE.p 123 (.bool false) ?_
          simp only [Act.put, pA, pB, pC]
          refine WE.done ?_
          go_wp2
          go_roundw
          case rel => exact ⟨k + 1, by omega, by simp, hR.out.1.up E6.out, hR.out.2.trans E6.out⟩
          case measure => simp [intOf]; omega
        · obtain rfl : kd = 5 := h7
          replace h8 : M.isSym x = true := h8
          obtain ⟨b, r, hbr, -⟩ := M.isSym_parts h8
          subst hbr
          have HS := hid (fun w => symbol_n (b :: r) (by have : (b :: r).length ≤ 1000000000 := htx9; omega) w)
          rw [h8] at HS
          clear h8
          go_wp2
          refine wp_region_D [(0, 0), (1, 0), (2, 0), (3, 0), (4, 0), (5, 0), (6, 0), (7, 0), (8, 0), (9, 0), (10, 0), (11, 0), (12, 1), (13, 0), (14, 0), (15, 0), (16, 0), (17, 0), (18, 0), (19, 0), (20, 0), (21, 0), (22, 0), (23, 0), (24, 0), (25, 0), (26, 0), (27, 0), (28, 1), (29, 0), (30, 0), (31, 0), (32, 0), (33, 0), (34, 0), (35, 0), (36, 0), (37, 0), (38, 0), (39, 0), (40, 0), (41, 0), (42, 0), (43, 0), (44, 0), (45, 0), (46, 0), (47, 0), (48, 0), (49, 0), (50, 0), (51, 0), (52, 0), (53, 0), (54, 0)] fun wd hb => ?_
          have E6 := hid hb
          replace c0 := hb.cell c0
          replace c2' := hb.cell c2'
          clear hb
          refine WE.p 69 (.slice (some ad) n c1) ?_
          simp only [Act.put, pA, pB, pC]
          refine WE.p 70 (.int .i64 (k : Int)) ?_
          simp only [Act.put, pA, pB, pC]
          refine WE.p 71 (.pointer (some (ad.add (k * 2)))) ?_
          simp only [Act.put, pA, pB, pC]
          refine WE.p 72 (.pointer (some (ad.add (k * 2)))) ?_
          simp only [Act.put, pA, pB, pC]
          refine WE.q 73 (.int .i64 5) rfl (fun w' hk => by have ce := hk.cell c0; go_simp) ?_
          simp only [Act.put, pA, pB, pC]
          refine WE.p 74 (.bool false) ?_
          simp only [Act.put, pA, pB, pC]
          refine WE.p 75 (.bool false) ?_
          simp only [Act.put, pA, pB, pC]
          refine WE.s 76 ?_
          simp only [Act.put, pA, pB, pC]
          refine WE.s 77 ?_
          simp only [Act.put, pA, pB, pC]
          refine WE.s 78 ?_
          simp only [Act.put, pA, pB, pC]
          refine WE.s 79 ?_
          simp only [Act.put, pA, pB, pC]
          refine WE.s 80 ?_
          simp only [Act.put, pA, pB, pC]
          refine WE.t 81 ?_
          simp only [Act.put, pA, pB, pC]
          refine WE.s 82 ?_
          simp only [Act.put, pA, pB, pC]
          refine WE.p 83 (.bool false) ?_
          simp only [Act.put, pA, pB, pC]
          refine WE.p 84 (.bool false) ?_
          simp only [Act.put, pA, pB, pC]
          refine WE.p 85 (.slice (some ad) n c1) ?_
          simp only [Act.put, pA, pB, pC]
          refine WE.p 86 (.int .i64 (k : Int)) ?_
          simp only [Act.put, pA, pB, pC]
          refine WE.p 87 (.pointer (some (ad.add (k * 2)))) ?_
          simp only [Act.put, pA, pB, pC]
          refine WE.p 88 (.pointer (some (ad.add (k * 2)))) ?_
          simp only [Act.put, pA, pB, pC]
          refine WE.q 89 (.int .i64 5) rfl (fun w' hk => by have ce := hk.cell c0; go_simp) ?_
          simp only [Act.put, pA, pB, pC]
          refine WE.p 90 (.bool true) ?_
          simp only [Act.put, pA, pB, pC]
          refine WE.p 91 (.bool true) ?_
          simp only [Act.put, pA, pB, pC]
          refine WE.p 92 (.slice (some ad) n c1) ?_
          simp only [Act.put, pA, pB, pC]
          refine WE.p 93 (.int .i64 (k : Int)) ?_
          simp only [Act.put, pA, pB, pC]
          refine WE.p 94 (.pointer (some (ad.add (k * 2)))) ?_
          simp only [Act.put, pA, pB, pC]
          refine WE.p 95 (.pointer (some ⟨(ad.add (k * 2)).block, (ad.add (k * 2)).off + 1, none⟩)) ?_
          simp only [Act.put, pA, pB, pC]
          refine WE.q 96 (str (b :: r)) rfl (fun w' hk => by have ce := hk.cell c2'; go_simp) ?_
          simp only [Act.put, pA, pB, pC]
          refine WE.c 97 ((HS.out _).mono ?_)
          rintro e w6 ⟨rfl, hb6⟩
          refine ⟨_, rfl, hb6, ?_⟩
          replace E6 := hid (E6.out.trans hb6)
          replace c0 := hb6.cell c0
          replace c2' := hb6.cell c2'
          clear hb6
          simp only [Act.put, pA, pB, pC]
          refine WE.p 98 (.bool false) ?_
          simp only [Act.put, pA, pB, pC]
          refine WE.p 99 (.bool false) ?_
          simp only [Act.put, pA, pB, pC]
          refine WE.p 100 (.bool false) ?_
          simp only [Act.put, pA, pB, pC]
          refine WE.p 101 (.bool false) ?_
          simp only [Act.put, pA, pB, pC]
          refine WE.p 102 (.slice (some ad) n c1) ?_
          simp only [Act.put, pA, pB, pC]
          refine WE.p 103 (.int .i64 (k : Int)) ?_
          simp only [Act.put, pA, pB, pC]
          refine WE.p 104 (.pointer (some (ad.add (k * 2)))) ?_
          simp only [Act.put, pA, pB, pC]
          refine WE.p 105 (.pointer (some (ad.add (k * 2)))) ?_
          simp only [Act.put, pA, pB, pC]
          refine WE.q 106 (.int .i64 5) rfl (fun w' hk => by have ce := hk.cell c0; go_simp) ?_
          simp only [Act.put, pA, pB, pC]
          refine WE.p 107 (.bool false) ?_
          simp only [Act.put, pA, pB, pC]
          refine WE.p 108 (.bool false) ?_
          simp only [Act.put, pA, pB, pC]
          refine WE.p 109 (.slice (some ad) n c1) ?_
          simp only [Act.put, pA, pB, pC]
          refine WE.p 110 (.int .i64 (k : Int)) ?_
          simp only [Act.put, pA, pB, pC]
          refine WE.p 111 (.pointer (some (ad.add (k * 2)))) ?_
          simp only [Act.put, pA, pB, pC]
          refine WE.p 112 (.pointer (some (ad.add (k * 2)))) ?_
          simp only [Act.put, pA, pB, pC]
          refine WE.q 113 (.int .i64 5) rfl (fun w' hk => by have ce := hk.cell c0; go_simp) ?_
          simp only [Act.put, pA, pB, pC]
          refine WE.p 114 (.bool false) ?_
          simp only [Act.put, pA, pB, pC]
          refine WE.p 115 (.bool false) ?_
          simp only [Act.put, pA, pB, pC]
          refine WE.p 116 (.slice (some ad) n c1) ?_
          simp only [Act.put, pA, pB, pC]
          refine WE.p 117 (.int .i64 (k : Int)) ?_
          simp only [Act.put, pA, pB, pC]
          refine WE.p 118 (.pointer (some (ad.add (k * 2)))) ?_
          simp only [Act.put, pA, pB, pC]
          refine WE.p 119 (.pointer (some ⟨(ad.add (k * 2)).block, (ad.add (k * 2)).off + 1, none⟩)) ?_
          simp only [Act.put, pA, pB, pC]
          refine WE.q 120 (str (b :: r)) rfl (fun w' hk => by have ce := hk.cell c2'; go_simp) ?_
          simp only [Act.put, pA, pB, pC]
          refine WE.p 121 (.bool false) ?_
          simp only [Act.put, pA, pB, pC]
          refine WE.p 122 (.bool false) ?_
          simp only [Act.put, pA, pB, pC]
          refine WE.p 123 (.bool false) ?_
          simp only [Act.put, pA, pB, pC]
          refine WE.done ?_
          go_wp2
          go_roundw
          case rel => exact ⟨k + 1, by omega, by simp, hR.out.1.up E6.out, hR.out.2.trans E6.out⟩
          case measure => simp [intOf]; omega
      · obtain rfl : k = n := by omega
        have key : ∀ c, c ≤ S → ∃ (u : List UInt8) (T : List M.Tok) (k' : Nat) (z : Int), (⟨s.toArray⟩ : ByteArray).extract 0 c = ⟨u.toArray⟩ ∧ (∀ w, Calls Try.prog 10 #[str u] w (GivesW w T k' z)) ∧ ((z = 0 ∧ T.length ≤ k) ∨ z = 14) := fun c hc => by
          refine ⟨s.take c, M.wToks (s.take c), M.wAt (s.take c), M.wErr (s.take c), by rw [ext_str]; rfl, fun w => words_n _ (by rw [List.length_take]; omega) w, ?_⟩
          rw [HN.out]
          exact M.first_le hl HSC.out c
        have KEY := hid key
        clear key
        rcases Nat.eq_zero_or_pos S with h0 | h0
        · obtain ⟨T, k', z, hw, hz⟩ : ∃ (T : List M.Tok) (k' : Nat) (z : Int), (∀ w, Calls Try.prog 10 #[.string ByteArray.empty] w (GivesW w T k' z)) ∧ ((z = 0 ∧ T.length ≤ k) ∨ z = 14) :=
            ⟨M.wToks [], M.wAt [], M.wErr [], fun w => words_n [] (by simp) w, .inl ⟨by decide +kernel, by rw [show M.wToks [] = [] by decide +kernel]; exact Nat.zero_le _⟩⟩
          have HWU := hid hw
          have q0 : decide (0 < (S : Int)) = false := by simp; omega
          have q0b : decide (0 < S) = false := by simp; omega
          clear hw h0
          go_wp2_with fail
          refine (HWU.out _).mono ?_
          rintro e w6 ⟨v, rfl, hv, hb⟩
          obtain ⟨A3, c3, rfl⟩ := hv.shape
          have E6 := hid (hR.out.2.trans hb)
          clear hb hv
          rcases hz with ⟨rfl, hle⟩ | rfl
          · have hle2 : (T.length : Int) ≤ (k : Int) := by omega
            go_wp2
            go_ret
            exact ⟨rfl, E6.out⟩
          · go_wp2
            go_ret
            exact ⟨rfl, E6.out⟩
        · obtain ⟨c, hc⟩ : ∃ c : Nat, a % (S : Int) = (c : Int) := ⟨(a % (S : Int)).toNat, by have := Int.emod_nonneg a (show (S : Int) ≠ 0 by omega); omega⟩
          have hcS : c < S := by have := Int.emod_lt_of_pos a (show 0 < (S : Int) by omega); omega
          obtain ⟨u, T, k', z, hx, hw, hz⟩ := KEY.out c (Nat.le_of_lt hcS)
          have HWU := hid hw
          have h0i : 0 < (S : Int) := by omega
          have hcS2 : c ≤ S := by omega
          clear hw
          go_wp2_with fail
          refine (HWU.out _).mono ?_
          rintro e w6 ⟨v, rfl, hv, hb⟩
          obtain ⟨A3, c3, rfl⟩ := hv.shape
          have E6 := hid (hR.out.2.trans hb)
          clear hb hv
          rcases hz with ⟨rfl, hle⟩ | rfl
          · have hle2 : (T.length : Int) ≤ (k : Int) := by omega
            go_wp2
            go_ret
            exact ⟨rfl, E6.out⟩
          · go_wp2
            go_ret
            exact ⟨rfl, E6.out⟩
  · have hat := M.scan_at hsc
    obtain ⟨d1, d2, d3⟩ := M.w_bad (s := s) (k := s.length - m) (by omega) (by omega) (by rw [hsc]; congr 1; omega)
    obtain ⟨p, hp⟩ : ∃ p, s.length - m = p := ⟨_, rfl⟩
    have HW := hid (fun w => words_n s (by omega) w)
    rw [d1, d2, d3, hp] at HW
    have hpS : (p : Int) < (S : Int) := by omega
    have hpS2 : p < S := by omega
    clear hsc hat d1 d2 d3 hp hS
    go_enter Try.func4, Try.ntmps4
    go_wp2_with fail
    refine (known_n _).mono ?_
    rintro e w1 ⟨rfl, hb⟩
    have E := hid hb
    clear hb
    go_wp2_with fail
    refine (HW.out _).mono ?_
    rintro e w2 ⟨v, rfl, hv, hb⟩
    obtain ⟨A1, n, c1, rfl, hn, -⟩ := hv
    obtain rfl : n = 0 := hn
    replace E := hid (E.out.trans hb)
    clear hb
    go_wp2
    go_ret
    exact ⟨rfl, E.out⟩

set_option maxRecDepth 100000 in
theorem lexBack_lifted (os : Os) (started : os.Started) (H : Type) (enc : TypeId × Value → H) :
    ReturnsInHanded {} Try.checked os 4 .any (Rows.lexBackSpec.pre6 enc Try.prog Try.f4 Rows.lexBackRow.domain false) (Rows.lexBackSpec.post enc Try.prog Try.f4 false true false false) := by
  refine returnsInHanded_of_change (C := Try.checked) own started (by kernel_rfl) Try.func4
    (ChangeSpec.witness6 (enc := enc) (C := Try.checked) false ⟨#[], #[.string ⟨#[]⟩, .int .u16 0], []⟩ 8 (by kernel_rfl) (by kernel_rfl) (by kernel_rfl) (by kernel_rfl)) ?_
  intro W base args ds gs before hval0 hW _ _
  have hval : ∀ (j : Nat) t v, Try.f4.params[j]? = some t → args[j]? = some v → Value.okWide Try.prog W .any base t v := hval0
  have hW' := hW
  obtain ⟨p, q, hA0, hV, rfl, hfz, hnd⟩ := hW
  have hA : DataW.TrodAll enc Try.prog W 0 (fun _ => true) true Try.f4.params.toList args.toList ds p := hA0
  rw [Try.params4] at hA hval
  obtain ⟨v0, vs0, d0, ds0, p0, q0, hargs, rfl, rfl, h0, r0⟩ := trodAll_cons hA
  obtain ⟨v1, vs1, d1, ds1, p1, q1, rfl, rfl, rfl, h1, r1⟩ := trodAll_cons r0
  obtain ⟨rfl, rfl, rfl⟩ := trodAll_nil r1
  obtain rfl : args = #[v0, v1] := by cases args; simp_all
  obtain ⟨rfl, rfl⟩ := trodVars_none hV
  obtain ⟨a0, rfl, -⟩ := Go.ChangeMaps.open_string Try.underlying9 (hval 0 9 v0 rfl rfl) h0
  obtain ⟨a1, rfl, -, -, w1⟩ := open_int Try.underlying34 (hval 1 34 v1 rfl rfl) h1
  clear hA0 hval0
  refine (lexBack_walk W a0.data.toList a1 (u16_of_wf w1)).mono fun e W' ⟨he, hg⟩ => ?_
  subst he
  exact ⟨_, rfl, law_post hW' rfl rfl (by kernel_rfl) (by kernel_rfl) hg⟩

theorem lexBack_over : Rows.lexBackRow.holds Try.pinned (OpenSpec.ofChange Rows.lexBackSpec) :=
  OpenClaim.holds_of_wide 4 Try.f4 rfl rfl rfl rfl rfl rfl rfl ⟨rfl, rfl, rfl, rfl, rfl⟩ rfl rfl rfl rfl rfl (by kernel_rfl) Try.func4 (by kernel_rfl)
    (of_decide_eq_true (by kernel_rfl)) (by unfold Func.isWrapper; first | (rw [if_pos (by decide +kernel)]; kernel_rfl) | (rw [if_neg (by decide +kernel)]; exact ⟨rfl, rfl⟩))
    (fun os started H enc _ => lexBack_lifted os started H enc)

theorem lexBack_proved : Rows.LexBackSaid := lexBack_over

end Go.Proofs.Ytmnchlikhbendaa
