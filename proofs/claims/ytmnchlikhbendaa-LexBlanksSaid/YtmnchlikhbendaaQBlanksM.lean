/-
  Mathematics of layer 8: blanks, line ends, remarks between words; an argument that is a list of bytes.
-/
import Derived.Test.YtmnchlikhbendaaQLaw
import Derived.Test.YtmnchlikhbendaaQBackM
import Derived.Test.YtmnchlikhbendaaQHeld
namespace Go.Proofs.Ytmnchlikhbendaa
set_option linter.unusedSimpArgs false
set_option linter.unusedVariables false
open Go.ChangeShapes Go.WideShapes Go.ChangeAt Go.RowKit
namespace M
def Pre (u : List UInt8) (ts : List Tok) : Prop := ∀ rest, scan (u ++ rest) = (ts ++ (scan rest).1, (scan rest).2)
def Gap (g : List UInt8) : Prop := ∀ rest, skip (g ++ rest) = skip rest ∧ Ends (g ++ rest)
theorem Pre.nil : Pre [] [] := fun rest => by simp
theorem Pre.gap {u g1 g2 : List UInt8} {ts : List Tok} {t : Tok} (h : Pre u ts) (h1 : g1 = [] ∨ Gap g1) (ht : OkTok t) (h2 : Gap g2) : Pre (u ++ g1 ++ word t ++ g2) (ts ++ [t]) := by
  intro rest
  have e : u ++ g1 ++ word t ++ g2 ++ rest = u ++ (g1 ++ (word t ++ (g2 ++ rest))) := by simp
  have e1 : scan (g1 ++ (word t ++ (g2 ++ rest))) = scan (word t ++ (g2 ++ rest)) := by
    rcases h1 with rfl | h1
    · rfl
    · exact scan_of_skip (h1 _).1
  rw [e, h, e1, scan_word ht (h2 rest).2, scan_of_skip (h2 rest).1]
  simp
def btw : List (List UInt8) := [[32], [10], [9, 32, 13], [32, 59, 32, 97, 32, 114, 101, 109, 97, 114, 107, 32, 40, 32, 58, 120, 32, 10], [10, 59, 10], [32, 32]]
theorem btw_gap {k : Nat} {g : List UInt8} (h : btw[k]? = some g) : Gap g ∧ g.length ≤ 18 := by
  have hk : k < 6 := (List.getElem?_eq_some_iff.1 h).1
  rcases (show k = 0 ∨ k = 1 ∨ k = 2 ∨ k = 3 ∨ k = 4 ∨ k = 5 by omega) with rfl | rfl | rfl | rfl | rfl | rfl
  all_goals
    simp [btw] at h
    subst h
    refine ⟨fun rest => ⟨rfl, .inr ⟨_, _, rfl, by decide⟩⟩, by decide⟩
theorem gap_space : Gap [32] := fun rest => ⟨rfl, .inr ⟨32, rest, rfl, by decide⟩⟩
theorem Pre.done {u : List UInt8} {ts : List Tok} (h : Pre u ts) : scan u = (ts, none) := by
  have := h []
  rw [List.append_nil, show scan [] = ([], none) from rfl] at this
  simpa using this
theorem Pre.end_ {u : List UInt8} {ts : List Tok} (h : Pre u ts) : scan (u ++ [59, 101, 110, 100]) = (ts, none) := by
  rw [h, show scan [59, 101, 110, 100] = ([], none) by decide +kernel]
  simp
theorem wErr_one (s : List UInt8) (hs : s.length ≤ 4000) : (wErr s = 0 ∧ wToks s = (scan s).1) ∨ wErr s = 14 := by
  rcases h : (scan s).2 with _ | m
  · left
    have := w_done (s := s) (ts := (scan s).1) hs (by rw [← h])
    exact ⟨this.2.2, this.1⟩
  · right
    unfold wErr
    rw [if_neg (by omega), h]
theorem one_ok {t : Tok} (h1 : wErr (word t) = 0) (h2 : wToks (word t) = [t]) (hl : (word t).length ≤ 4000) : OkTok t := by
  rcases wErr_one (word t) hl with ⟨_, h4⟩ | h4
  · have := (scan_ok (word t)).1 t (by rw [← h4, h2]; simp)
    exact this
  · rw [h1] at h4; cases h4
theorem print_one (t : Tok) : print [t] = word t := by simp [print]
end M
theorem TList.one {w : World} {A : Option Addr} {n c k d : Nat} {ts : List M.Tok} {ad : Addr} {t : M.Tok} (h : TList w (.slice A n c) ts) (hA : A = some ad) (hk : ts[k]? = some t) (hd : 1 ≤ d) (hd2 : d ≤ maxLen) : TList w (.slice (some (ad.add (k * 2))) 1 d) [t] := by
  obtain ⟨A', n', c', e, h2, h3, h4, h5⟩ := h
  injection e with e1 e2 e3
  obtain ⟨ad', ha, hb, hc⟩ := h5 (by rintro rfl; simp at hk)
  rw [← e1, hA] at ha
  injection ha with ha
  subst ha
  refine ⟨_, _, _, rfl, rfl, hd, hd2, fun _ => ⟨_, rfl, by rw [addr_block]; exact hb, fun j x hx => ?_⟩⟩
  rcases j with _ | j
  · simp at hx
    subst hx
    exact hc k _ hk
  · simp at hx
/-- A list of bytes in memory. -/
def BList (w : World) (v : Value) (xs : List Nat) : Prop := ∃ A n c, v = .slice A n c ∧ n = xs.length ∧ n ≤ c ∧ c ≤ maxLen ∧ ∀ (k x : Nat), xs[k]? = some x → x ≤ 255 ∧ ∃ ad, A = some ad ∧ ad.block < w.heap.size ∧ w.cell? (ad.add k) = some (.int .u8 (x : Int))
theorem BList.up {w w' : World} {v : Value} {xs : List Nat} (h : BList w v xs) (e : Ext w w') : BList w' v xs := by
  obtain ⟨A, n, c, h1, h2, h3, h4, h5⟩ := h
  refine ⟨A, n, c, h1, h2, h3, h4, fun k x hk => ?_⟩
  obtain ⟨hx, ad, ha, hb, hc⟩ := h5 k x hk
  exact ⟨hx, ad, ha, Nat.lt_of_lt_of_le hb e.size, e.cell hc⟩
section
variable {H : Type} {enc : TypeId × Value → H} {W W' : World}
theorem open_bytes {r : Reach} {b0 : Nat} {v : Value} {d : DataW H} {ps : List MemPlace} (hval : Value.okWide Try.prog W r b0 38 v) (h : DataW.Trod enc Try.prog W 0 (fun _ => true) true 38 v d ps) :
    ∃ A n c xs, v = .slice A n c ∧ BList W (.slice A n c) xs := by
  obtain ⟨a0, len, cap, rfl⟩ := okWide_slice Try.underlying38 hval
  obtain ⟨fuel, hf⟩ := h
  rcases open_ints Try.underlying38 Try.underlying5 (show Try.prog.cellsOf 5 = 1 by kernel_rfl) hf with ⟨hcs, _⟩ | ⟨a, len', cap', zs, hcs, _, hl, hm, hz, _, hcell, hwz⟩
  · simp [Value.cells] at hcs
    obtain ⟨rfl, rfl, rfl⟩ := hcs
    exact ⟨none, 0, 0, [], rfl, none, 0, 0, rfl, rfl, Nat.le_refl _, Nat.zero_le _, fun k x hk => by simp at hk⟩
  · simp [Value.cells] at hcs
    obtain ⟨rfl, rfl, rfl⟩ := hcs
    simp only [if_true] at hz
    refine ⟨_, _, _, (zs.take len).map Int.toNat, rfl, some a, len, cap, rfl, by simp; omega, hl, hm, fun k x hk => ?_⟩
    rw [List.getElem?_map, List.getElem?_take] at hk
    obtain ⟨n, hn, rfl⟩ := Option.map_eq_some_iff.1 hk
    split at hn
    · obtain ⟨hi, he⟩ := List.getElem?_eq_some_iff.1 hn
      have hwf := u8_of_wf (hwz n (he ▸ List.getElem_mem hi))
      have hc := hcell k hi
      have e : zs.getD k 0 = n := by simp [List.getD, hi, he]
      rw [e] at hc
      have hbl := World.block_lt_of_cell? W _ hc
      rw [addr_block] at hbl
      exact ⟨by omega, a, rfl, hbl, by rw [hc, Int.toNat_of_nonneg hwf.1]⟩
    · cases hn
end
end Go.Proofs.Ytmnchlikhbendaa
