/-
  WHAT: blanks, line ends, remarks between words change nothing (LexBlanks).
  FOR EVERY INPUT: no condition.
-/
import Derived.Test.YtmnchlikhbendaaQBlanksM
namespace Go.Proofs.Ytmnchlikhbendaa
set_option linter.unusedSimpArgs false
set_option linter.unusedVariables false
open Go.ChangeShapes Go.WideShapes Go.ChangeAt Go.RowKit

def cellsB : Array Value := #[.string ⟨#[32]⟩, .string ⟨#[10]⟩, .string ⟨#[9, 32, 13]⟩, .string ⟨#[32, 59, 32, 97, 32, 114, 101, 109, 97, 114, 107, 32, 40, 32, 58, 120, 32, 10]⟩, .string ⟨#[10, 59, 10]⟩, .string ⟨#[32, 32]⟩]
theorem cellsB_at {k : Nat} {g : List UInt8} (h : M.btw[k]? = some g) : cellsB[k]? = some (str g) := by
  have hk : k < 6 := (List.getElem?_eq_some_iff.1 h).1
  rcases (show k = 0 ∨ k = 1 ∨ k = 2 ∨ k = 3 ∨ k = 4 ∨ k = 5 by omega) with rfl | rfl | rfl | rfl | rfl | rfl
  all_goals
    simp [M.btw] at h
    subst h
    rfl
def BlanksAt (W wr : World) (bx : Nat) (ts : List M.Tok) (k : Nat) (su tu : List UInt8) : Prop := M.Pre su (ts.take k) ∧ M.Pre tu (ts.take k) ∧ su.length ≤ k * 42 ∧ tu.length ≤ k * 77 ∧ Box wr bx cellsB 39 ∧ Ext W wr
set_option maxHeartbeats 16000000 in
set_option maxRecDepth 100000 in
theorem lexBlanks_walk (W : World) (A : Option Addr) (n c : Nat) (ts : List M.Tok) (h1 : TList W (.slice A n c) ts) (B : Option Addr) (m d : Nat) (xs : List Nat) (h2 : BList W (.slice B m d) xs) :
    Calls Try.prog 5 #[.slice A n c, .slice B m d] W (GivesB W true) := by
  have hn : n = ts.length ∧ n ≤ c ∧ c ≤ maxLen := by obtain ⟨A', n', c', e, h, h', h'', _⟩ := h1; injection e with e1 e2 e3; subst e2 e3; exact ⟨h, h', h''⟩
  have hm : m = xs.length ∧ m ≤ d ∧ d ≤ maxLen := by obtain ⟨A', n', c', e, h, h', h'', _⟩ := h2; injection e with e1 e2 e3; subst e2 e3; exact ⟨h, h', h''⟩
  have hc9 : n ≤ c ∧ c ≤ 9223372036854775807 ∧ Hid (c ≤ maxLen) := by have := hn.2.2; unfold maxLen at hn; exact ⟨by omega, by omega, this⟩
  have hd9 : m ≤ d ∧ d ≤ 9223372036854775807 := by unfold maxLen at hm; omega
  obtain ⟨hc8, hc9, HCM⟩ := hc9
  obtain ⟨hd8, hd9⟩ := hd9
  have HT := hid h1
  have HB := hid h2
  have HN := hid hn.1
  have HM := hid hm.1
  obtain ⟨q, hq⟩ : ∃ q, M.few ts = q := ⟨_, rfl⟩
  have HQ := hid hq
  have HF := hid (show ∀ w, Ext W w → Calls Try.prog 9 #[.slice A n c] w fun e w' => e = .returned (.bool q) ∧ w = w' from fun w hE => hq ▸ few_n (h1.up hE))
  clear h1 h2 hq hn hm
  cases q
  · go_enter Try.func5, Try.ntmps5
    go_wp2_with fail
    refine (known_n _).mono ?_
    rintro e w1 ⟨rfl, hb⟩
    have E := hid hb
    clear hb
    go_wp2_with fail
    refine (HF.out _ E.out).mono ?_
    rintro e w' ⟨rfl, rfl⟩
    go_wp2
    go_ret
    exact ⟨rfl, E.out⟩
  rcases Nat.lt_or_ge 30 n with h30 | h30
  · have h30i : 30 < (n : Int) := by omega
    go_enter Try.func5, Try.ntmps5
    go_wp2_with fail
    refine (known_n _).mono ?_
    rintro e w1 ⟨rfl, hb⟩
    have E := hid hb
    clear hb
    go_wp2_with fail
    refine (HF.out _ E.out).mono ?_
    rintro e w' ⟨rfl, rfl⟩
    go_wp2
    go_ret
    exact ⟨rfl, E.out⟩
  have h30i : decide (30 < (n : Int)) = false := by simp; omega
  go_enter Try.func5, Try.ntmps5
  go_wp2_with fail
  refine (known_n _).mono ?_
  rintro e w1 ⟨rfl, hb⟩
  have E := hid hb
  clear hb
  go_wp2_with fail
  refine (HF.out _ E.out).mono ?_
  rintro e w' ⟨rfl, rfl⟩
  go_upto_region 8 with (fail)
  go_loopw [6, 7, 8] (fun x y i wr => ∃ (k : Nat) (su tu : List UInt8), i = .int .i64 (k : Int) ∧ k ≤ n ∧ x = str su ∧ y = str tu ∧ Hid (BlanksAt W wr w1.heap.size ts k su tu)) (fun _ _ i _ => n - (intOf i).toNat)
  case atStart => exact ⟨0, [], [], rfl, Nat.zero_le _, rfl, rfl, M.Pre.nil, M.Pre.nil, Nat.le_refl _, Nat.le_refl _, Box.new w1 cellsB 39, E.out.alloc' _⟩
  case round =>
    obtain ⟨k, su, tu, rfl, hk, rfl, rfl, hR⟩ := hrel
    rcases Nat.lt_or_ge k n with hlt | hge
    · obtain ⟨ad, t, rfl, ht, c0, c1⟩ := TList.get (HT.out.up hR.out.2.2.2.2.2) (k := k) (by rw [← HN.out]; exact hlt)
      have hlt' : (k : Int) < (n : Int) := by omega
      have htl := (M.few_parts HQ.out).1 t (List.mem_of_getElem? ht)
      have HK := hid ht
      have HP := hid (show ∀ w, Ext W w → Calls Try.prog 15 #[.slice (some (ad.add (k * 2))) 1 (c - k)] w (GivesT w (M.word t)) from fun w hE => by
        have h5 := TList.one (HT.out.up hE) rfl HK.out (show 1 ≤ c - k by omega) (Nat.le_trans (Nat.sub_le _ _) HCM.out)
        have h6 := print_n h5 (by rw [M.print_one]; have := M.word_le t; omega) (by simp; omega)
        rw [M.print_one] at h6; exact h6)
      clear ht
      obtain ⟨wd, hwd⟩ : ∃ wd, M.word t = wd := ⟨_, rfl⟩
      have hwl : wd.length ≤ 41 := by rw [← hwd]; have := M.word_le t; omega
      rw [hwd] at HP
      obtain ⟨T, hT⟩ : ∃ T, M.wToks wd = T := ⟨_, rfl⟩
      obtain ⟨k', hk'⟩ : ∃ k', M.wAt wd = k' := ⟨_, rfl⟩
      obtain ⟨z, hz⟩ : ∃ z, M.wErr wd = z := ⟨_, rfl⟩
      have HW := hid (fun w => words_n wd (by omega) w)
      rw [hT, hk', hz] at HW
      have HWD := hid hwd
      have HTT := hid hT
      have HZ := hid hz
      have hTl : T.length ≤ 4000 ∨ True := .inr trivial
      clear hwd hT hk' hz hTl
      have HC0 := hid c0
      have HC1 := hid c1
      clear c0 c1
      go_wp2_with fail
      refine (HP.out _ hR.out.2.2.2.2.2).mono ?_
      rintro e w2 ⟨rfl, hb⟩
      have E2 := hid hb
      clear hb
      go_wp2_with fail
      refine (HW.out _).mono ?_
      rintro e w3 ⟨v, rfl, hv, hb⟩
      obtain ⟨A3, c3, rfl⟩ := hv.shape
      have HV := hid hv
      replace E2 := hid (E2.out.trans hb)
      clear hb hv
      have EW := hid (hR.out.2.2.2.2.2.trans E2.out)
      by_cases hz0 : z = 0
      · subst hz0
        by_cases hT1 : T.length = 1
        · obtain ⟨u, hu⟩ : ∃ u, T = [u] := by
            rcases T with _ | ⟨u, _ | ⟨y, r⟩⟩
            · simp at hT1
            · exact ⟨u, rfl⟩
            · simp at hT1
          subst hu
          obtain ⟨bd, u', rfl, hu', d0, d1⟩ := TList.get HV.out (k := 0) (by simp)
          obtain rfl : u' = u := by simpa using hu'.symm
          replace d0 : w3.cell? bd = some (.int .i64 u'.1) := d0
          replace d1 : w3.cell? ⟨bd.block, bd.off + 1, none⟩ = some (str u'.2) := d1
          have c0 := E2.out.cell HC0.out
          have c1 := E2.out.cell HC1.out
          have hc31 : 1 ≤ c3 ∧ c3 ≤ 9223372036854775807 := by
            obtain ⟨A', n', c', e, h, h', h'', _⟩ := HV.out
            injection e with e1 e2 e3; subst e2 e3; unfold maxLen at h''; simp at h'; omega
          obtain ⟨hc31, hc32⟩ := hc31
          clear hu' hT1
          by_cases hne : u' = t
          · subst hne
            go_wp2
            go_region
            have HOK := hid (M.one_ok (t := u') (by rw [HWD.out]; exact HZ.out) (by rw [HWD.out]; exact HTT.out) (by rw [HWD.out]; omega))
            have hgap : ∃ (g : Nat) (b1 b2 : List UInt8), True := ⟨0, [], [], trivial⟩
            clear c0 c1 d0 d1 hgap
            rcases Nat.lt_or_ge k m with hkm | hkm
            · obtain ⟨x, hx⟩ : ∃ x, xs[k]? = some x := ⟨_, List.getElem?_eq_getElem (by rw [← HM.out]; exact hkm)⟩
              obtain ⟨B', n', c', e, -, -, -, h5⟩ := HB.out.up EW.out
              injection e with ea eb ec
              subst ea eb ec
              obtain ⟨hx255, bb, rfl, -, hcb⟩ := h5 k x hx
              obtain ⟨g, hg⟩ : ∃ g, x % 6 = g := ⟨_, rfl⟩
              obtain ⟨g2, hg2⟩ : ∃ g2, (g + 1) % 6 = g2 := ⟨_, rfl⟩
              have hg6 : g < 6 := by omega
              have hg26 : g2 < 6 := by omega
              have hgi : (x : Int) % 6 = (g : Int) := by omega
              obtain ⟨b1, hb1⟩ : ∃ b1, M.btw[g]? = some b1 := ⟨_, List.getElem?_eq_getElem (show g < M.btw.length from hg6)⟩
              obtain ⟨b2, hb2⟩ : ∃ b2, M.btw[g2]? = some b2 := ⟨_, List.getElem?_eq_getElem (show g2 < M.btw.length from hg26)⟩
              have hb1l := (M.btw_gap hb1).2
              have hb2l := (M.btw_gap hb2).2
              have HG1 := hid hb1
              have HG2 := hid hb2
              have HWR := hid (show IntKind.i64.wrap ((g : Int) + 1) = (g : Int) + 1 by rw [IntKind.wrap_i64]; omega)
              have HRM := hid (show ((g : Int) + 1).tmod 6 = (g2 : Int) by rw [Int.tmod_eq_emod_of_nonneg (by omega)]; omega)
              have HRM2 := hid (show ((g : Int) + 1) % 6 = (g2 : Int) by omega)
              clear hx h5 hg hg2 hb1 hb2
              have hsu : (⟨su.toArray⟩ : ByteArray).size = su.length := by rw [Lib.size_eq]
              have htu : (⟨tu.toArray⟩ : ByteArray).size = tu.length := by rw [Lib.size_eq]
              have hwz : (⟨wd.toArray⟩ : ByteArray).size = wd.length := by rw [Lib.size_eq]
              have hb1z : (⟨b1.toArray⟩ : ByteArray).size = b1.length := by rw [Lib.size_eq]
              have hb2z : (⟨b2.toArray⟩ : ByteArray).size = b2.length := by rw [Lib.size_eq]
              obtain ⟨p1, hp1⟩ : ∃ p, su ++ wd = p := ⟨_, rfl⟩
              obtain ⟨p2, hp2⟩ : ∃ p, p1 ++ [32] = p := ⟨_, rfl⟩
              obtain ⟨e1, he1⟩ : ∃ p, tu ++ b1 = p := ⟨_, rfl⟩
              obtain ⟨e2, he2⟩ : ∃ p, e1 ++ wd = p := ⟨_, rfl⟩
              obtain ⟨e3, he3⟩ : ∃ p, e2 ++ b2 = p := ⟨_, rfl⟩
              have x1 : (⟨su.toArray⟩ : ByteArray) ++ ⟨wd.toArray⟩ = ⟨p1.toArray⟩ := by rw [← hp1]; exact app_str su wd
              have x2 : (⟨p1.toArray⟩ : ByteArray) ++ ⟨#[32]⟩ = ⟨p2.toArray⟩ := by rw [← hp2]; exact app_str p1 [32]
              have x3 : (⟨tu.toArray⟩ : ByteArray) ++ ⟨b1.toArray⟩ = ⟨e1.toArray⟩ := by rw [← he1]; exact app_str tu b1
              have x4 : (⟨e1.toArray⟩ : ByteArray) ++ ⟨wd.toArray⟩ = ⟨e2.toArray⟩ := by rw [← he2]; exact app_str e1 wd
              have x5 : (⟨e2.toArray⟩ : ByteArray) ++ ⟨b2.toArray⟩ = ⟨e3.toArray⟩ := by rw [← he3]; exact app_str e2 b2
              have l1 : p1.length = su.length + wd.length := by rw [← hp1]; simp
              have l3 : e1.length = tu.length + b1.length := by rw [← he1]; simp
              have l4 : e2.length = tu.length + b1.length + wd.length := by rw [← he2, ← he1]; simp; omega
              have hp1z : (⟨p1.toArray⟩ : ByteArray).size = su.length + wd.length := by rw [Lib.size_eq]; exact l1
              have he1z : (⟨e1.toArray⟩ : ByteArray).size = tu.length + b1.length := by rw [Lib.size_eq]; exact l3
              have he2z : (⟨e2.toArray⟩ : ByteArray).size = tu.length + b1.length + wd.length := by rw [Lib.size_eq]; exact l4
              have hsl := hR.out.2.2.1
              have htl2 := hR.out.2.2.2.1
              have hsl9 : su.length ≤ 5000 := by omega
              have htl9 : tu.length ≤ 5000 := by omega
              have hts1 : ts.take (k + 1) = ts.take k ++ [u'] := by rw [List.take_add_one, HK.out]; rfl
              have HPS := hid (show M.Pre p2 (ts.take (k + 1)) by
                have := hR.out.1.gap (.inl rfl) HOK.out M.gap_space
                rw [List.append_nil, HWD.out, hp1, hp2] at this
                rw [hts1]; exact this)
              have HPT := hid (show M.Pre e3 (ts.take (k + 1)) by
                have := hR.out.2.1.gap (.inr (M.btw_gap HG1.out).1) HOK.out (M.btw_gap HG2.out).1
                rw [HWD.out, he1, he2, he3] at this
                rw [hts1]; exact this)
              have HL := hid (show p2.length ≤ (k + 1) * 42 ∧ e3.length ≤ (k + 1) * 77 by
                refine ⟨?_, ?_⟩
                · rw [← hp2, List.length_append, l1]; simp; omega
                · rw [← he3, List.length_append, l4]; omega)
              clear hp1 hp2 he1 he2 he3 l1 l3 l4 hts1 hsl htl2
              have HBX := hid (hR.out.2.2.2.2.1.up E2.out)
              have hy1 : w3.cell? ⟨w1.heap.size, g, none⟩ = some (str b1) := HBX.out.cell (cellsB_at HG1.out)
              have hy2 : w3.cell? ⟨w1.heap.size, g2, none⟩ = some (str b2) := HBX.out.cell (cellsB_at HG2.out)
              have hkm' : (k : Int) < (m : Int) := by omega
              go_wp2
              have hwr := HWR.out
              have hrm := HRM.out
              have hrm2 := HRM2.out
              go_region
              clear hwr hrm hrm2
              go_wp2
              go_roundw
              case rel => exact ⟨k + 1, p2, e3, by simp, by omega, rfl, rfl, HPS.out, HPT.out, HL.out.1, HL.out.2, HBX.out.up ((Ext.refl _).drew'.drew'), EW.out.drew'.drew'⟩
              case measure => simp [intOf]; omega
            · obtain ⟨b1, hb1⟩ : ∃ b1, M.btw[0]? = some b1 := ⟨_, rfl⟩
              obtain ⟨b2, hb2⟩ : ∃ b2, M.btw[1]? = some b2 := ⟨_, rfl⟩
              have hb1l := (M.btw_gap hb1).2
              have hb2l := (M.btw_gap hb2).2
              have HG1 := hid hb1
              have HG2 := hid hb2
              clear hb1 hb2
              have hsu : (⟨su.toArray⟩ : ByteArray).size = su.length := by rw [Lib.size_eq]
              have htu : (⟨tu.toArray⟩ : ByteArray).size = tu.length := by rw [Lib.size_eq]
              have hwz : (⟨wd.toArray⟩ : ByteArray).size = wd.length := by rw [Lib.size_eq]
              have hb1z : (⟨b1.toArray⟩ : ByteArray).size = b1.length := by rw [Lib.size_eq]
              have hb2z : (⟨b2.toArray⟩ : ByteArray).size = b2.length := by rw [Lib.size_eq]
              obtain ⟨p1, hp1⟩ : ∃ p, su ++ wd = p := ⟨_, rfl⟩
              obtain ⟨p2, hp2⟩ : ∃ p, p1 ++ [32] = p := ⟨_, rfl⟩
              obtain ⟨e1, he1⟩ : ∃ p, tu ++ b1 = p := ⟨_, rfl⟩
              obtain ⟨e2, he2⟩ : ∃ p, e1 ++ wd = p := ⟨_, rfl⟩
              obtain ⟨e3, he3⟩ : ∃ p, e2 ++ b2 = p := ⟨_, rfl⟩
              have x1 : (⟨su.toArray⟩ : ByteArray) ++ ⟨wd.toArray⟩ = ⟨p1.toArray⟩ := by rw [← hp1]; exact app_str su wd
              have x2 : (⟨p1.toArray⟩ : ByteArray) ++ ⟨#[32]⟩ = ⟨p2.toArray⟩ := by rw [← hp2]; exact app_str p1 [32]
              have x3 : (⟨tu.toArray⟩ : ByteArray) ++ ⟨b1.toArray⟩ = ⟨e1.toArray⟩ := by rw [← he1]; exact app_str tu b1
              have x4 : (⟨e1.toArray⟩ : ByteArray) ++ ⟨wd.toArray⟩ = ⟨e2.toArray⟩ := by rw [← he2]; exact app_str e1 wd
              have x5 : (⟨e2.toArray⟩ : ByteArray) ++ ⟨b2.toArray⟩ = ⟨e3.toArray⟩ := by rw [← he3]; exact app_str e2 b2
              have l1 : p1.length = su.length + wd.length := by rw [← hp1]; simp
              have l3 : e1.length = tu.length + b1.length := by rw [← he1]; simp
              have l4 : e2.length = tu.length + b1.length + wd.length := by rw [← he2, ← he1]; simp; omega
              have hp1z : (⟨p1.toArray⟩ : ByteArray).size = su.length + wd.length := by rw [Lib.size_eq]; exact l1
              have he1z : (⟨e1.toArray⟩ : ByteArray).size = tu.length + b1.length := by rw [Lib.size_eq]; exact l3
              have he2z : (⟨e2.toArray⟩ : ByteArray).size = tu.length + b1.length + wd.length := by rw [Lib.size_eq]; exact l4
              have hsl := hR.out.2.2.1
              have htl2 := hR.out.2.2.2.1
              have hsl9 : su.length ≤ 5000 := by omega
              have htl9 : tu.length ≤ 5000 := by omega
              have hts1 : ts.take (k + 1) = ts.take k ++ [u'] := by rw [List.take_add_one, HK.out]; rfl
              have HPS := hid (show M.Pre p2 (ts.take (k + 1)) by
                have := hR.out.1.gap (.inl rfl) HOK.out M.gap_space
                rw [List.append_nil, HWD.out, hp1, hp2] at this
                rw [hts1]; exact this)
              have HPT := hid (show M.Pre e3 (ts.take (k + 1)) by
                have := hR.out.2.1.gap (.inr (M.btw_gap HG1.out).1) HOK.out (M.btw_gap HG2.out).1
                rw [HWD.out, he1, he2, he3] at this
                rw [hts1]; exact this)
              have HL := hid (show p2.length ≤ (k + 1) * 42 ∧ e3.length ≤ (k + 1) * 77 by
                refine ⟨?_, ?_⟩
                · rw [← hp2, List.length_append, l1]; simp; omega
                · rw [← he3, List.length_append, l4]; omega)
              clear hp1 hp2 he1 he2 he3 l1 l3 l4 hts1 hsl htl2
              have HBX := hid (hR.out.2.2.2.2.1.up E2.out)
              have hy1 : w3.cell? ⟨w1.heap.size, 0, none⟩ = some (str b1) := HBX.out.cell (cellsB_at HG1.out)
              have hy2 : w3.cell? ⟨w1.heap.size, 1, none⟩ = some (str b2) := HBX.out.cell (cellsB_at HG2.out)
              have hkm' : decide ((k : Int) < (m : Int)) = false := by simp; omega
              go_wp2
              go_region
              go_wp2
              go_roundw
              case rel => exact ⟨k + 1, p2, e3, by simp, by omega, rfl, rfl, HPS.out, HPT.out, HL.out.1, HL.out.2, HBX.out.up ((Ext.refl _).drew'.drew'), EW.out.drew'.drew'⟩
              case measure => simp [intOf]; omega
          · obtain ⟨a, x⟩ := u'
            obtain ⟨b, y⟩ := t
            by_cases hab : a = b
            · subst hab
              have hxy : ¬ x = y := fun e => hne (by rw [e])
              clear hne
              go_wp2
              go_region
              go_wp2
              go_ret
              exact ⟨rfl, EW.out.drew'⟩
            · clear hne
              go_wp2
              go_region
              go_wp2
              go_ret
              exact ⟨rfl, EW.out.drew'⟩
        · have hq1 : ((T.length : Int) == 1) = false := by simp; omega
          have hq2 : ((T.length : Int) != 1) = true := by rw [bne, hq1]; rfl
          go_wp2
          go_region
          go_wp2
          go_ret
          exact ⟨rfl, EW.out.drew'⟩
      · have hq1 : (z == 0) = false := by simpa using hz0
        have hq2 : (z != 0) = true := by rw [bne, hq1]; rfl
        go_wp2
        go_region
        go_wp2
        go_ret
        exact ⟨rfl, EW.out.drew'⟩
    · obtain rfl : k = n := by omega
      obtain ⟨se, hse⟩ : ∃ p, tu ++ [59, 101, 110, 100] = p := ⟨_, rfl⟩
      have hst := hR.out.1
      have htt := hR.out.2.1
      rw [HN.out, List.take_length] at hst htt
      have hls := hR.out.2.2.1
      have hlt3 := hR.out.2.2.2.1
      have hls9 : su.length ≤ 4000 := by omega
      have hlt9 : tu.length ≤ 3990 := by omega
      have hsel : se.length = tu.length + 4 := by rw [← hse, List.length_append]; rfl
      have d1 := M.w_done (s := su) hls9 hst.done
      have d2 := M.w_done (s := se) (by omega) (by rw [← hse]; exact htt.end_)
      have HW1 := hid (fun w => words_n su (by omega) w)
      have HW2 := hid (fun w => words_n se (by omega) w)
      rw [d1.1, d1.2.1, d1.2.2] at HW1
      rw [d2.1, d2.2.1, d2.2.2, hsel] at HW2
      have htu : (⟨tu.toArray⟩ : ByteArray).size = tu.length := by rw [Lib.size_eq]
      have hx : (⟨tu.toArray⟩ : ByteArray) ++ ⟨#[59, 101, 110, 100]⟩ = ⟨se.toArray⟩ := by rw [← hse]; exact app_str tu [59, 101, 110, 100]
      clear hst htt hls hlt3 d1 d2 hse hsel
      go_wp2_with fail
      refine (HW1.out _).mono ?_
      rintro e w4 ⟨v1, rfl, hv1, hb⟩
      obtain ⟨A4, c4, rfl⟩ := hv1.shape
      have HV1 := hid hv1
      have E4 := hid (hR.out.2.2.2.2.2.trans hb)
      clear hb hv1
      go_wp2_with fail
      refine (HW2.out _).mono ?_
      rintro e w5 ⟨v2, rfl, hv2, hb⟩
      obtain ⟨A5, c5, rfl⟩ := hv2.shape
      have HV2 := hid hv2
      replace HV1 := hid (HV1.out.up hb)
      replace E4 := hid (E4.out.trans hb)
      clear hb hv2
      go_wp2_with fail
      refine (same_n HV1.out (HT.out.up E4.out)).mono ?_
      rintro e w6 ⟨rfl, hb⟩
      replace HV2 := hid (HV2.out.up hb)
      replace E4 := hid (E4.out.trans hb)
      clear hb
      rw [decide_eq_true rfl]
      go_wp2_with fail
      refine (same_n HV2.out (HT.out.up E4.out)).mono ?_
      rintro e w7 ⟨rfl, hb⟩
      replace E4 := hid (E4.out.trans hb)
      clear hb
      rw [decide_eq_true rfl]
      go_wp2
      go_ret
      exact ⟨rfl, E4.out⟩

set_option maxRecDepth 100000 in
theorem lexBlanks_lifted (os : Os) (started : os.Started) (H : Type) (enc : TypeId × Value → H) :
    ReturnsInHanded {} Try.checked os 5 .any (Rows.lexBlanksSpec.pre6 enc Try.prog Try.f5 Rows.lexBlanksRow.domain false) (Rows.lexBlanksSpec.post enc Try.prog Try.f5 false true false false) := by
  refine returnsInHanded_of_change (C := Try.checked) own started (by kernel_rfl) Try.func5
    (ChangeSpec.witness6 (enc := enc) (C := Try.checked) false ⟨#[], #[.slice none 0 0, .slice none 0 0], []⟩ 8 (by kernel_rfl) (by kernel_rfl) (by kernel_rfl) (by kernel_rfl)) ?_
  intro W base args ds gs before hval0 hW _ _
  have hval : ∀ (j : Nat) t v, Try.f5.params[j]? = some t → args[j]? = some v → Value.okWide Try.prog W .any base t v := hval0
  have hW' := hW
  obtain ⟨p, q, hA0, hV, rfl, hfz, hnd⟩ := hW
  have hA : DataW.TrodAll enc Try.prog W 0 (fun _ => true) true Try.f5.params.toList args.toList ds p := hA0
  rw [Try.params5] at hA hval
  obtain ⟨v0, vs0, d0, ds0, p0, q0, hargs, rfl, rfl, h0, r0⟩ := trodAll_cons hA
  obtain ⟨v1, vs1, d1, ds1, p1, q1, rfl, rfl, rfl, h1, r1⟩ := trodAll_cons r0
  obtain ⟨rfl, rfl, rfl⟩ := trodAll_nil r1
  obtain rfl : args = #[v0, v1] := by cases args; simp_all
  obtain ⟨rfl, rfl⟩ := trodVars_none hV
  obtain ⟨A0, n0, c0, ts0, rfl, e0⟩ := open_TL (hval 0 22 _ rfl rfl) h0
  obtain ⟨A1, n1, c1, xs1, rfl, e1⟩ := open_bytes (hval 1 38 _ rfl rfl) h1
  clear hA0 hval0
  refine (lexBlanks_walk W A0 n0 c0 ts0 e0 A1 n1 c1 xs1 e1).mono fun e W' ⟨he, hg⟩ => ?_
  subst he
  exact ⟨_, rfl, law_post hW' rfl rfl (by kernel_rfl) (by kernel_rfl) hg⟩

theorem lexBlanks_over : Rows.lexBlanksRow.holds Try.pinned (OpenSpec.ofChange Rows.lexBlanksSpec) :=
  OpenClaim.holds_of_wide 5 Try.f5 rfl rfl rfl rfl rfl rfl rfl ⟨rfl, rfl, rfl, rfl, rfl⟩ rfl rfl rfl rfl rfl (by kernel_rfl) Try.func5 (by kernel_rfl)
    (of_decide_eq_true (by kernel_rfl)) (by unfold Func.isWrapper; first | (rw [if_pos (by decide +kernel)]; kernel_rfl) | (rw [if_neg (by decide +kernel)]; exact ⟨rfl, rfl⟩))
    (fun os started H enc _ => lexBlanks_lifted os started H enc)

theorem lexBlanks_proved : Rows.LexBlanksSaid := lexBlanks_over

end Go.Proofs.Ytmnchlikhbendaa
