/-
  Contracts of the reference: Print; the mathematics of one.
-/
import Derived.Test.YtmnchlikhbendaaQRefA
namespace Go.Proofs.Ytmnchlikhbendaa
set_option linter.unusedSimpArgs false
set_option linter.unusedVariables false
open Go.RowKit

def RPrintAt (W wr : World) (ts : List M.Tok) (k : Nat) (x : Value) : Prop := x = str (M.print (ts.take k)) ∧ Ext W wr
set_option maxHeartbeats 4000000 in
set_option maxRecDepth 100000 in
theorem rPrint_n {w : World} {v : Value} {ts : List M.Tok} (h : TList w v ts) (hlen : (M.print ts).length ≤ 1000000000) (htx : ∀ t ∈ ts, t.2.length ≤ 1000000000) : Calls Try.prog 16 #[v] w (GivesT w (M.print ts)) := by
  obtain ⟨A, n, c, rfl, hn, hnc, hcm, hA⟩ := h
  have HT := hid (show TList w (.slice A n c) ts from ⟨A, n, c, rfl, hn, hnc, hcm, hA⟩)
  have HN := hid hn
  have HX := hid htx
  have hc9 : c ≤ 9223372036854775807 := by unfold maxLen at hcm; omega
  clear hn hA htx
  go_enter Try.func16, Try.ntmps16
  go_wp2
  go_loopw [3, 4] (fun x i wr => ∃ (k : Nat), i = .int .i64 (k : Int) ∧ k ≤ n ∧ x = str (M.print (ts.take k)) ∧ Hid (Ext w wr)) (fun _ i _ => n - (intOf i).toNat)
  case atStart => exact ⟨0, rfl, Nat.zero_le _, rfl, Ext.refl _⟩
  case round =>
    obtain ⟨k, rfl, hk, rfl, hR⟩ := hrel
    obtain ⟨a, ha⟩ : ∃ a, M.print (ts.take k) = a := ⟨_, rfl⟩
    rw [ha]
    rcases Nat.lt_or_ge k n with hlt | hge
    · obtain ⟨ad, t, rfl, ht, c0, c1⟩ := TList.get (HT.out.up hR.out) (k := k) (by rw [← HN.out]; exact hlt)
      have hlt' : (k : Int) < (n : Int) := by omega
      have HK := hid ht
      have hw := M.word_len ht
      have hp := M.print_len ts k
      rw [ha] at hp
      have HP := hid (show ∀ w, Calls Try.prog 28 #[.agg #[.int .i64 t.1, str t.2]] w (GivesT w (M.word t)) from fun w => rWord_n t (by have := HX.out t (List.mem_of_getElem? HK.out); omega) w)
      obtain ⟨u, hu⟩ : ∃ u, M.word t = u := ⟨_, rfl⟩
      rw [hu] at hw HP
      have hsp := M.print_take HK.out
      rw [ha, hu] at hsp
      have hsa : (⟨a.toArray⟩ : ByteArray).size = a.length := by rw [Lib.size_eq]
      have hsu : (⟨u.toArray⟩ : ByteArray).size = u.length := by rw [Lib.size_eq]
      clear ht hu
      rcases Nat.eq_zero_or_pos k with h0 | h0
      · have hqa : decide (0 < (k : Int)) = false := by simp; omega
        have hqb : decide (0 < k) = false := by simp; omega
        have ha0 : a = [] := by rw [← ha, h0]; rfl
        have HS := hid (show M.print (ts.take (k + 1)) = u by rw [hsp, if_pos h0])
        have hx : (⟨a.toArray⟩ : ByteArray) ++ ⟨u.toArray⟩ = ⟨u.toArray⟩ := by rw [app_str, ha0]; rfl
        clear hsp h0 ha ha0
        go_wp2_with (go_at_call 28; refine (HP.out _).mono ?_; rintro e w2 ⟨rfl, hb⟩; have E2 := hid hb; clear hb)
        go_roundw
        case rel => exact ⟨k + 1, by simp, by omega, by rw [HS.out], hR.out.trans E2.out⟩
        case measure => simp [intOf]; omega
      · have hqa : (0 < (k : Int)) := by omega
        have HS := hid (show M.print (ts.take (k + 1)) = a ++ 32 :: u by rw [hsp, if_neg (by omega)])
        obtain ⟨a1, ha1⟩ : ∃ a1, a ++ [32] = a1 := ⟨_, rfl⟩
        obtain ⟨a2, ha2⟩ : ∃ a2, a1 ++ u = a2 := ⟨_, rfl⟩
        have hl1 : a1.length = a.length + 1 := by rw [← ha1]; simp
        have hx : (⟨a.toArray⟩ : ByteArray) ++ ⟨#[32]⟩ = ⟨a1.toArray⟩ := by rw [← ha1]; exact app_str a [32]
        have hx2 : (⟨a1.toArray⟩ : ByteArray) ++ ⟨u.toArray⟩ = ⟨a2.toArray⟩ := by rw [← ha2]; exact app_str a1 u
        have hs1 : (⟨a1.toArray⟩ : ByteArray).size = a.length + 1 := by rw [Lib.size_eq]; exact hl1
        have HA := hid (show a ++ 32 :: u = a2 by rw [← ha2, ← ha1]; simp)
        clear hsp ha ha1 ha2 hl1
        go_wp2_with (go_at_call 28; refine (HP.out _).mono ?_; rintro e w2 ⟨rfl, hb⟩; have E2 := hid hb; clear hb)
        go_roundw
        case rel => exact ⟨k + 1, by simp, by omega, by rw [HS.out, HA.out], hR.out.trans E2.out⟩
        case measure => simp [intOf]; omega
    · obtain rfl : k = n := by omega
      have HE := hid (show M.print ts = a by rw [← ha, HN.out, List.take_length])
      clear ha
      go_wp2
      go_ret
      exact ⟨by rw [HE.out]; rfl, hR.out⟩
namespace M
theorem takeWhile_same {p q : UInt8 → Bool} : ∀ {l : List UInt8}, (∀ b ∈ l.takeWhile p, q b = true) → (∀ c, l[(l.takeWhile p).length]? = some c → q c = false) → l.takeWhile q = l.takeWhile p
  | [], _, _ => rfl
  | b :: r, h1, h2 => by
    rw [List.takeWhile_cons, List.takeWhile_cons]
    rw [List.takeWhile_cons] at h1 h2
    by_cases hp : p b = true
    · rw [if_pos hp] at h1 h2 ⊢
      rw [if_pos (h1 b (by simp)), takeWhile_same (p := p) (fun c hc => h1 c (by simp [hc])) (fun c hc => h2 c (by simpa using hc))]
    · rw [if_neg hp] at h2 ⊢
      rw [if_neg (by rw [h2 b (by simp)]; decide)]
theorem takeWhile_mem {p : UInt8 → Bool} {l : List UInt8} {b : UInt8} (h : b ∈ l.takeWhile p) : p b = true := List.all_eq_true.1 List.all_takeWhile b h
theorem takeWhile_more {p q : UInt8 → Bool} : ∀ {l : List UInt8} {c : UInt8}, (∀ b ∈ l.takeWhile p, q b = true) → l[(l.takeWhile p).length]? = some c → q c = true → c ∈ l.takeWhile q ∧ (l.takeWhile p).length < (l.takeWhile q).length
  | [], c, _, h2, _ => by simp at h2
  | b :: r, c, h1, h2, h3 => by
    rw [List.takeWhile_cons] at h1 h2
    rw [List.takeWhile_cons, List.takeWhile_cons]
    by_cases hp : p b = true
    · rw [if_pos hp] at h1 h2 ⊢
      rw [if_pos (h1 b (by simp))]
      have := takeWhile_more (p := p) (l := r) (fun c hc => h1 c (by simp [hc])) (by simpa using h2) h3
      simp [this.1, this.2]
    · rw [if_neg hp] at h2 ⊢
      simp at h2
      subst h2
      rw [if_pos h3]
      simp
theorem next_not {p : UInt8 → Bool} : ∀ {l : List UInt8} {c : UInt8}, l[(l.takeWhile p).length]? = some c → p c = false
  | [], c, h => by simp at h
  | b :: r, c, h => by
    rw [List.takeWhile_cons] at h
    by_cases hp : p b = true
    · rw [if_pos hp] at h; exact next_not (l := r) (by simpa using h)
    · rw [if_neg hp] at h
      simp at h
      subst h
      simpa using hp
/-- What the reference tells of a word at a place. -/
def OneIs (l : List UInt8) (a : Nat) (t : Tok) (m : Nat) (ok : Bool) : Prop := (ok = true → first l = some (t, m - a) ∧ a ≤ m) ∧ (ok = false → first l = none)
theorem first_of {b : UInt8} {r : List UInt8} (h1 : b ≠ 40) (h2 : b ≠ 41) (h3 : b ≠ 58) : first (b :: r) = if isSym ((b :: r).takeWhile sym) = true then some ((4, (b :: r).takeWhile sym), ((b :: r).takeWhile sym).length) else if isNum ((b :: r).takeWhile sym) = true then some ((3, (b :: r).takeWhile sym), ((b :: r).takeWhile sym).length) else none := by
  rw [first, if_neg h1, if_neg h2, if_neg h3]
theorem isSym_head {b : UInt8} {r : List UInt8} (h : dig b = true) : isSym (b :: r) = false := by unfold isSym; rw [List.headD_cons, h]; simp
theorem isNum_head {b : UInt8} {r : List UInt8} (h : dig b = false) : isNum (b :: r) = false := by
  have hb : b ≠ 48 := by rintro rfl; exact absurd h (by decide)
  rw [isNum, if_neg hb, List.all_cons, h]; rfl
theorem dig_not {b : UInt8} (h : dig b = true) : b ≠ 40 ∧ b ≠ 41 ∧ b ≠ 58 := ⟨(sym_not (dig_sym h)).1, (sym_not (dig_sym h)).2.1, (sym_not (dig_sym h)).2.2.1⟩
/-- Digits, and no symbol's byte behind them. -/
theorem one_num {b : UInt8} {r u : List UInt8} {a : Nat} {ok : Bool} (hb : dig b = true) (hu : (b :: r).takeWhile dig = u) (hn : ∀ c, (b :: r)[u.length]? = some c → sym c = false) (hok : isNum u = ok) : OneIs (b :: r) a (3, u) (a + u.length) ok := by
  obtain ⟨n1, n2, n3⟩ := dig_not hb
  have hs : (b :: r).takeWhile sym = u := by
    rw [← hu]; exact takeWhile_same (fun x hx => dig_sym (takeWhile_mem hx)) (fun c hc => hn c (by rw [← hu]; exact hc))
  have hh : isSym u = false := by
    rw [← hu, List.takeWhile_cons, if_pos hb]; exact isSym_head hb
  have e := first_of (r := r) n1 n2 n3
  rw [hs, hh, hok] at e
  refine ⟨fun h => ⟨?_, by omega⟩, fun h => ?_⟩
  · rw [e, h, show a + u.length - a = u.length by omega]; rfl
  · rw [e, h]; rfl
/-- Digits, and a symbol's byte behind them. -/
theorem one_mix {b c : UInt8} {r u : List UInt8} {a m : Nat} {t : Tok} (hb : dig b = true) (hu : (b :: r).takeWhile dig = u) (hc : (b :: r)[u.length]? = some c) (hs : sym c = true) : OneIs (b :: r) a t m false := by
  obtain ⟨n1, n2, n3⟩ := dig_not hb
  subst hu
  have hd := next_not hc
  have hm := takeWhile_more (q := sym) (fun x hx => dig_sym (takeWhile_mem hx)) hc hs
  have hv : ∃ v, (b :: r).takeWhile sym = b :: v := ⟨_, by rw [List.takeWhile_cons, if_pos (dig_sym hb)]⟩
  obtain ⟨v, hv⟩ := hv
  have h1 : isSym (b :: v) = false := isSym_head hb
  have h2 : isNum (b :: v) = false := by
    rw [hv] at hm
    have hne : c ≠ b := by rintro rfl; rw [hb] at hd; cases hd
    have hcv : c ∈ v := by simpa [hne] using hm.1
    rw [isNum]
    split
    · cases v
      · simp at hcv
      · rfl
    · exact List.all_eq_false.2 ⟨c, by simp [hcv], by rw [hd]; decide⟩
  refine ⟨fun h => (by cases h), fun _ => ?_⟩
  rw [first_of n1 n2 n3, hv, h1, h2]; rfl
theorem one_key {r u : List UInt8} {a : Nat} {ok : Bool} (hu : r.takeWhile sym = u) (hok : isSym u = ok) : OneIs (58 :: r) a (5, u) (a + 1 + u.length) ok := by
  have e : first (58 :: r) = if isSym u = true then some ((5, u), 1 + u.length) else none := by
    rw [first, if_neg (by decide), if_neg (by decide), if_pos rfl, hu]
  rw [hok] at e
  refine ⟨fun h => ⟨?_, by omega⟩, fun h => ?_⟩
  · rw [e, h, show a + 1 + u.length - a = 1 + u.length by omega]; rfl
  · rw [e, h]; rfl
theorem one_sym {b : UInt8} {r u : List UInt8} {a : Nat} {ok : Bool} (h0 : dig b = false) (h1 : sym b = true) (hu : (b :: r).takeWhile sym = u) (hok : isSym u = ok) : OneIs (b :: r) a (4, u) (a + u.length) ok := by
  obtain ⟨n1, n2, n3, _⟩ := sym_not h1
  have hh : isNum u = false := by
    rw [← hu, List.takeWhile_cons, if_pos h1]; exact isNum_head h0
  have e := first_of (r := r) n1 n2 n3
  rw [hu, hh, hok] at e
  refine ⟨fun h => ⟨?_, by omega⟩, fun h => ?_⟩
  · rw [e, h, show a + u.length - a = u.length by omega]; rfl
  · rw [e, h]; rfl
theorem one_no {b : UInt8} {r : List UInt8} {a m : Nat} {t : Tok} (n1 : b ≠ 40) (n2 : b ≠ 41) (n3 : b ≠ 58) (h1 : sym b = false) : OneIs (b :: r) a t m false := by
  refine ⟨fun h => (by cases h), fun _ => ?_⟩
  have hv : (b :: r).takeWhile sym = [] := by rw [List.takeWhile_cons, h1]; rfl
  rw [first_of n1 n2 n3, hv]; rfl
theorem one_par {b : UInt8} {r : List UInt8} {a : Nat} : (b = 40 → OneIs (b :: r) a (1, []) (a + 1) true) ∧ (b = 41 → OneIs (b :: r) a (2, []) (a + 1) true) := by
  refine ⟨?_, ?_⟩
  · rintro rfl
    exact ⟨fun _ => ⟨by rw [first, if_pos rfl, show a + 1 - a = 1 by omega], by omega⟩, fun h => by cases h⟩
  · rintro rfl
    exact ⟨fun _ => ⟨by rw [first, if_neg (by decide), if_pos rfl, show a + 1 - a = 1 by omega], by omega⟩, fun h => by cases h⟩
end M
end Go.Proofs.Ytmnchlikhbendaa
