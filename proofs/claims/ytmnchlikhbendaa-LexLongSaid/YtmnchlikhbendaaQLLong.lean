/-
  WHAT: names as long as may be, and one more; texts as long as may be, and one more (LexLong).
  FOR EVERY INPUT: no condition.
-/
import Derived.Test.YtmnchlikhbendaaQLaw
namespace Go.Proofs.Ytmnchlikhbendaa
set_option linter.unusedSimpArgs false
set_option linter.unusedVariables false
open Go.ChangeShapes Go.WideShapes Go.ChangeAt Go.RowKit

namespace M
theorem skip_spaces : ∀ n : Nat, skip (List.replicate n 32) = []
  | 0 => rfl
  | n + 1 => by rw [List.replicate_succ, skip_blank (by decide)]; exact skip_spaces n
theorem spaces_ok {n : Nat} (h : n ≤ 4000) : wToks (List.replicate n 32) = [] ∧ wAt (List.replicate n 32) = n ∧ wErr (List.replicate n 32) = 0 := by
  have := w_done (s := List.replicate n 32) (by simpa using h) (scan_nil (skip_spaces n))
  simpa using this
theorem spaces_no {n : Nat} (h : 4000 < n) : wToks (List.replicate n 32) = [] ∧ wAt (List.replicate n 32) = 0 ∧ wErr (List.replicate n 32) = 11 := w_large (by simpa using h)
end M
/-- A block of bytes of the call's own, known whole. -/
def Blk8 (w : World) (g : Nat) (l : List UInt8) : Prop := w.heap[g]? = some (.cells (l.map fun b : UInt8 => Value.int .u8 (b.toNat : Int)).toArray 5 (0, 0))
theorem Blk8.cell {w : World} {g : Nat} {l : List UInt8} (h : Blk8 w g l) {i : Nat} {b : UInt8} (hx : l[i]? = some b) : w.cell? ⟨g, i, none⟩ = some (.int .u8 (b.toNat : Int)) := by
  rw [cell_of_row w g i _ 5 (0, 0) h]
  simp [hx]
theorem Blk8.free {w : World} {g : Nat} {l : List UInt8} (h : Blk8 w g l) (i : Nat) : w.frozen? ⟨g, i, none⟩ = false := by
  unfold Blk8 at h
  simp [World.frozen?, h]
theorem Blk8.put {w : World} {g : Nat} {l : List UInt8} (h : Blk8 w g l) (i : Nat) {b : UInt8} {z : Int} (hz : z = (b.toNat : Int)) : Blk8 (w.setCell ⟨g, i, none⟩ (.int .u8 z)) g (l.set i b) := by
  subst hz
  unfold Blk8 at h ⊢
  simp [World.setCell, Array.getElem?_modify, h, List.map_set]
def zeros8 (n : Nat) : Array Value := ((List.replicate n (0 : UInt8)).map fun b : UInt8 => Value.int .u8 (b.toNat : Int)).toArray
theorem info_u8 : (Try.prog.info? 5).map (fun i => (i.zero, i.size, i.bytes)) = some (some (.int .u8 0), 1, 1) := by kernel_rfl
theorem made_zeros8 (c : Nat) : madeCells (Value.int .u8 0).cells (c * 1) = zeros8 c := by
  apply Array.ext'
  rw [zeros8, Nat.mul_one]
  apply List.ext_getElem?
  intro i
  simp [madeCells, Value.cells, List.getElem?_replicate, Nat.mod_one]
  by_cases h : i < c <;> simp [h]
theorem make_u8 (b : Nat) (hb : b ≤ 1000000000) (w : World) :
    (Instr.makeSlice 38 (.int .i64 (b : Int)) (.int .i64 (b : Int))).run Try.prog w = .ok (.slice (some ⟨w.heap.size, 0, none⟩) b b) (w.alloc (.cells (zeros8 b) 5)) := by
  obtain ⟨i0, hi, hz0, hz1, hz2⟩ := info_parts info_u8
  have := run_make (P := Try.prog) w 38 5 i0 (.int .u8 0) Try.underlying38 hi hz0 .i64 .i64 (b : Int) (b : Int) (by omega) (by omega) (by rw [hz2]; omega) (by omega)
  rw [this, hz1, Int.toNat_natCast, made_zeros8]
/-- So far the blanks are written. -/
def blanked (S j : Nat) : List UInt8 := List.replicate j 32 ++ List.replicate (S - j) 0
theorem blanked_at {S j : Nat} (h : j < S) : (blanked S j)[j]? = some 0 ∧ (blanked S j).set j 32 = blanked S (j + 1) := by
  obtain ⟨t, ht⟩ : ∃ t, S - j = t + 1 := ⟨S - j - 1, by omega⟩
  unfold blanked
  rw [ht, show S - (j + 1) = t by omega, List.replicate_succ (n := t)]
  refine ⟨by simp, ?_⟩
  rw [List.set_append_right _ _ (by simp), List.length_replicate, Nat.sub_self, List.set_cons_zero, List.replicate_succ', List.append_assoc]
  rfl
theorem bytes_run (l : List UInt8) (g : Nat) (w : World) (h : Blk8 w g l) {n : Nat} (hn : n = l.length) : (convert 38 9 (.slice (some ⟨g, 0, none⟩) n n)).run Try.prog w = .ok (.string ⟨l.toArray⟩) w := by
  subst hn
  exact run_convert_bytes_back (P := Try.prog) w 38 9 5 ⟨g, 0, none⟩ l.length l Try.underlying38 Try.underlying5 Try.underlying9 (fun j hj => by
    rw [Addr.add_lit, Nat.zero_add]
    have hj' : j < l.length := by simpa using hj
    have h1 := h.cell (List.getElem?_eq_getElem hj')
    rw [h1])
theorem words_is {s : List UInt8} {ts : List M.Tok} {k : Nat} {z : Int} (hs : s.length ≤ 1000000) (h1 : M.wToks s = ts) (h2 : M.wAt s = k) (h3 : M.wErr s = z) (w : World) : Calls Try.prog 10 #[str s] w (GivesW w ts k z) := by
  subst h1 h2 h3; exact words_n s (by omega) w
set_option maxHeartbeats 8000000 in
set_option maxRecDepth 100000 in
theorem lexLong_ps (W : World) (a d : Int) (ha0 : 0 ≤ a) (hd0 : 0 ≤ d) (r m : Nat) (hr : a % 3 = (r : Int)) (hm : d % 3 = (m : Int)) (hr3 : r < 3) (hm3 : m < 3) (K S : Nat) (hKr : K = 19 + r) (hSm : S = 3999 + m) (hK : K ≤ 20) (T1 T2 : List M.Tok) (hT1 : T1.length = 2) (k1 k2 : Nat) (hS : S ≤ 4000) (nm : List UInt8) (hnm : nm = List.replicate K 113)
    (h1 : ∀ w, Calls Try.prog 10 #[str (97 :: 32 :: nm)] w (GivesW w T1 k1 0)) (h2 : ∀ w, Calls Try.prog 10 #[str (97 :: 32 :: 58 :: nm)] w (GivesW w T2 k2 0)) (h3 : M.isSym nm = true) :
    Calls Try.prog 7 #[.int .u8 a, .int .u8 d] W (GivesB W true) := by
  have H1 := hid h1
  have H2 := hid h2
  have hnl : nm.length = K := by rw [hnm, List.length_replicate]
  have HS := hid (fun w => symbol_n nm (by omega) w)
  rw [h3] at HS
  have hKi : 19 + (r : Int) = (K : Int) := by omega
  have hSi : 3999 + (m : Int) = (S : Int) := by omega
  have HN := hid hnm
  have hx1 : (⟨#[97, 32]⟩ : ByteArray) ++ ⟨nm.toArray⟩ = ⟨(97 :: 32 :: nm).toArray⟩ := app_str [97, 32] nm
  have hx2 : (⟨#[97, 32, 58]⟩ : ByteArray) ++ ⟨nm.toArray⟩ = ⟨(97 :: 32 :: 58 :: nm).toArray⟩ := app_str [97, 32, 58] nm
  have HX1 := hid hx1
  have HX2 := hid hx2
  have hszn : (⟨nm.toArray⟩ : ByteArray).size = K := by rw [Lib.size_eq]; exact hnl
  have HSZN := hid hszn
  have HW := hid (fun w => words_is (s := List.replicate S 32) (ts := []) (k := S) (z := 0) (by simp; omega) (M.spaces_ok hS).1 (M.spaces_ok hS).2.1 (M.spaces_ok hS).2.2 w)
  have HMK := hid (fun w => make_u8 S (by omega) w)
  have hK21 : K ≤ 21 := by omega
  have HNL := hid hnl
  clear h1 h2 h3 hnm hx1 hx2 hszn hKr hSm hnl
  go_enter Try.func7, Try.ntmps7
  go_wp2_with fail
  refine (known_n _).mono ?_
  rintro e w1 ⟨rfl, hb⟩
  have E := hid hb
  clear hb
  go_wp2
  go_loop [6, 7] (fun x i => ∃ k : Nat, k ≤ K ∧ i = .int .i64 (k : Int) ∧ x = str (List.replicate k 113)) (fun _ i => K - (intOf i).toNat)
  case atStart => exact ⟨0, Nat.zero_le _, rfl, rfl⟩
  case round =>
    obtain ⟨k, hk, rfl, rfl⟩ := hrel
    rcases Nat.lt_or_ge k K with hlt | hge
    · have hlt' : (k : Int) < (K : Int) := by omega
      obtain ⟨u, hu⟩ : ∃ u, List.replicate k (113 : UInt8) = u := ⟨_, rfl⟩
      obtain ⟨u', hu'⟩ : ∃ u', List.replicate (k + 1) (113 : UInt8) = u' := ⟨_, rfl⟩
      rw [hu]
      have hx : (⟨u.toArray⟩ : ByteArray) ++ ⟨#[113]⟩ = ⟨u'.toArray⟩ := by rw [← hu', ← hu, List.replicate_succ']; exact app_str _ [113]
      have hsz : (⟨u.toArray⟩ : ByteArray).size = k := by rw [Lib.size_eq, ← hu]; simp
      have hul : u.length = k := by rw [← hu]; simp
      have HU := hid hu'
      clear hu hu'
      go_wp2
      go_round
      case rel => exact ⟨k + 1, by omega, by simp, by rw [HU.out]⟩
      case measure => simp [intOf]; omega
    · obtain rfl : k = K := by omega
      rw [← HN.out]
      have hx1 := HX1.out
      have hsz1 := HSZN.out
      go_wp2_with fail
      refine (H1.out _).mono ?_
      rintro e w2 ⟨v1, rfl, hv1, hb⟩
      obtain ⟨A1, c1, rfl⟩ := hv1.shape
      replace E := hid (E.out.trans hb)
      clear hb hv1 hx1
      have hx2 := HX2.out
      go_wp2_with fail
      refine (H2.out _).mono ?_
      rintro e w3 ⟨v2, rfl, hv2, hb⟩
      obtain ⟨A2, c2, rfl⟩ := hv2.shape
      replace E := hid (E.out.trans hb)
      clear hb hv2 hx2
      have hmk := HMK.out w3
      go_wp2
      clear hmk
      have hE3 := E.out.size
      go_loopw [16] (fun i wr => ∃ j : Nat, j ≤ S ∧ i = .int .i64 (j : Int) ∧ Hid (Blk8 wr w3.heap.size (blanked S j) ∧ Ext W wr)) (fun i _ => S - (intOf i).toNat)
      case atStart => exact ⟨0, Nat.zero_le _, rfl, (heap_alloc_new w3 _), E.out.alloc' _⟩
      case round =>
        obtain ⟨j, hj, rfl, hR⟩ := hrel
        rcases Nat.lt_or_ge j S with hjS | hjS
        · have hjS' : (j : Int) < (S : Int) := by omega
          have hc := hR.out.1.cell (blanked_at hjS).1
          have hf := hR.out.1.free j
          replace hc : wr.cell? ⟨w3.heap.size, j, none⟩ = some (.int .u8 0) := hc
          go_wp2
          go_roundw
          case rel => exact ⟨j + 1, by omega, by simp, by have := hR.out.1.put j (b := 32) (z := 32) rfl; rw [(blanked_at hjS).2] at this; exact this, hR.out.2.set' hE3 _⟩
          case measure => simp [intOf]; omega
        · obtain rfl : j = S := by omega
          obtain ⟨sp, hsp⟩ : ∃ sp, List.replicate j (32 : UInt8) = sp := ⟨_, rfl⟩
          have hbl : Blk8 wr w3.heap.size sp := by have := hR.out.1; unfold blanked at this; rw [Nat.sub_self, hsp] at this; simpa using this
          have HW' := HW.out
          rw [hsp] at HW'
          have HW2 := hid HW'
          have hcv : (convert 38 9 (.slice (some ⟨w3.heap.size, 0, none⟩) j j)).run Try.prog wr = .ok (.string ⟨sp.toArray⟩) wr := bytes_run sp _ wr hbl (by rw [← hsp]; simp)
          clear HW' hbl hsp
          have hk20 : (k : Int) ≤ 20 := by omega
          have hk20b : decide (20 < (k : Int)) = false := by simp; omega
          have hS0 : (j : Int) ≤ 4000 := by omega
          have hS1 : decide (4000 < (j : Int)) = false := by simp; omega
          go_wp2_with fail
          refine (HW2.out _).mono ?_
          rintro e w4 ⟨v3, rfl, hv3, hb⟩
          obtain ⟨A3, c3, rfl⟩ := hv3.shape
          have E4 := hid (hR.out.2.trans hb)
          clear hb hv3 hcv
          go_wp2_with fail
          refine (HS.out _).mono ?_
          rintro e w5 ⟨rfl, hb⟩
          have E5 := hid (E4.out.trans hb)
          clear hb
          go_wp2
          go_ret
          exact ⟨rfl, E5.out⟩
set_option maxHeartbeats 8000000 in
set_option maxRecDepth 100000 in
theorem lexLong_pl (W : World) (a d : Int) (ha0 : 0 ≤ a) (hd0 : 0 ≤ d) (r m : Nat) (hr : a % 3 = (r : Int)) (hm : d % 3 = (m : Int)) (hr3 : r < 3) (hm3 : m < 3) (K S : Nat) (hKr : K = 19 + r) (hSm : S = 3999 + m) (hK : K ≤ 20) (T1 T2 : List M.Tok) (hT1 : T1.length = 2) (k1 k2 : Nat) (hS : 4000 < S) (hS2 : S ≤ 4001) (nm : List UInt8) (hnm : nm = List.replicate K 113)
    (h1 : ∀ w, Calls Try.prog 10 #[str (97 :: 32 :: nm)] w (GivesW w T1 k1 0)) (h2 : ∀ w, Calls Try.prog 10 #[str (97 :: 32 :: 58 :: nm)] w (GivesW w T2 k2 0)) (h3 : M.isSym nm = true) :
    Calls Try.prog 7 #[.int .u8 a, .int .u8 d] W (GivesB W true) := by
  have H1 := hid h1
  have H2 := hid h2
  have hnl : nm.length = K := by rw [hnm, List.length_replicate]
  have HS := hid (fun w => symbol_n nm (by omega) w)
  rw [h3] at HS
  have hKi : 19 + (r : Int) = (K : Int) := by omega
  have hSi : 3999 + (m : Int) = (S : Int) := by omega
  have HN := hid hnm
  have hx1 : (⟨#[97, 32]⟩ : ByteArray) ++ ⟨nm.toArray⟩ = ⟨(97 :: 32 :: nm).toArray⟩ := app_str [97, 32] nm
  have hx2 : (⟨#[97, 32, 58]⟩ : ByteArray) ++ ⟨nm.toArray⟩ = ⟨(97 :: 32 :: 58 :: nm).toArray⟩ := app_str [97, 32, 58] nm
  have HX1 := hid hx1
  have HX2 := hid hx2
  have hszn : (⟨nm.toArray⟩ : ByteArray).size = K := by rw [Lib.size_eq]; exact hnl
  have HSZN := hid hszn
  have HW := hid (fun w => words_is (s := List.replicate S 32) (ts := []) (k := 0) (z := 11) (by simp; omega) (M.spaces_no (by omega)).1 (M.spaces_no (by omega)).2.1 (M.spaces_no (by omega)).2.2 w)
  have HMK := hid (fun w => make_u8 S (by omega) w)
  have hK21 : K ≤ 21 := by omega
  have HNL := hid hnl
  clear h1 h2 h3 hnm hx1 hx2 hszn hKr hSm hnl
  go_enter Try.func7, Try.ntmps7
  go_wp2_with fail
  refine (known_n _).mono ?_
  rintro e w1 ⟨rfl, hb⟩
  have E := hid hb
  clear hb
  go_wp2
  go_loop [6, 7] (fun x i => ∃ k : Nat, k ≤ K ∧ i = .int .i64 (k : Int) ∧ x = str (List.replicate k 113)) (fun _ i => K - (intOf i).toNat)
  case atStart => exact ⟨0, Nat.zero_le _, rfl, rfl⟩
  case round =>
    obtain ⟨k, hk, rfl, rfl⟩ := hrel
    rcases Nat.lt_or_ge k K with hlt | hge
    · have hlt' : (k : Int) < (K : Int) := by omega
      obtain ⟨u, hu⟩ : ∃ u, List.replicate k (113 : UInt8) = u := ⟨_, rfl⟩
      obtain ⟨u', hu'⟩ : ∃ u', List.replicate (k + 1) (113 : UInt8) = u' := ⟨_, rfl⟩
      rw [hu]
      have hx : (⟨u.toArray⟩ : ByteArray) ++ ⟨#[113]⟩ = ⟨u'.toArray⟩ := by rw [← hu', ← hu, List.replicate_succ']; exact app_str _ [113]
      have hsz : (⟨u.toArray⟩ : ByteArray).size = k := by rw [Lib.size_eq, ← hu]; simp
      have hul : u.length = k := by rw [← hu]; simp
      have HU := hid hu'
      clear hu hu'
      go_wp2
      go_round
      case rel => exact ⟨k + 1, by omega, by simp, by rw [HU.out]⟩
      case measure => simp [intOf]; omega
    · obtain rfl : k = K := by omega
      rw [← HN.out]
      have hx1 := HX1.out
      have hsz1 := HSZN.out
      go_wp2_with fail
      refine (H1.out _).mono ?_
      rintro e w2 ⟨v1, rfl, hv1, hb⟩
      obtain ⟨A1, c1, rfl⟩ := hv1.shape
      replace E := hid (E.out.trans hb)
      clear hb hv1 hx1
      have hx2 := HX2.out
      go_wp2_with fail
      refine (H2.out _).mono ?_
      rintro e w3 ⟨v2, rfl, hv2, hb⟩
      obtain ⟨A2, c2, rfl⟩ := hv2.shape
      replace E := hid (E.out.trans hb)
      clear hb hv2 hx2
      have hmk := HMK.out w3
      go_wp2
      clear hmk
      have hE3 := E.out.size
      go_loopw [16] (fun i wr => ∃ j : Nat, j ≤ S ∧ i = .int .i64 (j : Int) ∧ Hid (Blk8 wr w3.heap.size (blanked S j) ∧ Ext W wr)) (fun i _ => S - (intOf i).toNat)
      case atStart => exact ⟨0, Nat.zero_le _, rfl, (heap_alloc_new w3 _), E.out.alloc' _⟩
      case round =>
        obtain ⟨j, hj, rfl, hR⟩ := hrel
        rcases Nat.lt_or_ge j S with hjS | hjS
        · have hjS' : (j : Int) < (S : Int) := by omega
          have hc := hR.out.1.cell (blanked_at hjS).1
          have hf := hR.out.1.free j
          replace hc : wr.cell? ⟨w3.heap.size, j, none⟩ = some (.int .u8 0) := hc
          go_wp2
          go_roundw
          case rel => exact ⟨j + 1, by omega, by simp, by have := hR.out.1.put j (b := 32) (z := 32) rfl; rw [(blanked_at hjS).2] at this; exact this, hR.out.2.set' hE3 _⟩
          case measure => simp [intOf]; omega
        · obtain rfl : j = S := by omega
          obtain ⟨sp, hsp⟩ : ∃ sp, List.replicate j (32 : UInt8) = sp := ⟨_, rfl⟩
          have hbl : Blk8 wr w3.heap.size sp := by have := hR.out.1; unfold blanked at this; rw [Nat.sub_self, hsp] at this; simpa using this
          have HW' := HW.out
          rw [hsp] at HW'
          have HW2 := hid HW'
          have hcv : (convert 38 9 (.slice (some ⟨w3.heap.size, 0, none⟩) j j)).run Try.prog wr = .ok (.string ⟨sp.toArray⟩) wr := bytes_run sp _ wr hbl (by rw [← hsp]; simp)
          clear HW' hbl hsp
          have hk20 : (k : Int) ≤ 20 := by omega
          have hk20b : decide (20 < (k : Int)) = false := by simp; omega
          have hS0 : 4000 < (j : Int) := by omega
          have hS1 : decide ((j : Int) ≤ 4000) = false := by simp; omega
          go_wp2_with fail
          refine (HW2.out _).mono ?_
          rintro e w4 ⟨v3, rfl, hv3, hb⟩
          obtain ⟨A3, c3, rfl⟩ := hv3.shape
          have E4 := hid (hR.out.2.trans hb)
          clear hb hv3 hcv
          go_wp2_with fail
          refine (HS.out _).mono ?_
          rintro e w5 ⟨rfl, hb⟩
          have E5 := hid (E4.out.trans hb)
          clear hb
          go_wp2
          go_ret
          exact ⟨rfl, E5.out⟩
set_option maxHeartbeats 8000000 in
set_option maxRecDepth 100000 in
theorem lexLong_qs (W : World) (a d : Int) (ha0 : 0 ≤ a) (hd0 : 0 ≤ d) (r m : Nat) (hr : a % 3 = (r : Int)) (hm : d % 3 = (m : Int)) (hr3 : r < 3) (hm3 : m < 3) (K S : Nat) (hKr : K = 19 + r) (hSm : S = 3999 + m) (hK : 20 < K) (hK2 : K ≤ 21) (T1 T2 : List M.Tok) (hS : S ≤ 4000) (nm : List UInt8) (hnm : nm = List.replicate K 113)
    (h1 : ∀ w, Calls Try.prog 10 #[str (97 :: 32 :: nm)] w (GivesW w T1 2 14)) (h2 : ∀ w, Calls Try.prog 10 #[str (97 :: 32 :: 58 :: nm)] w (GivesW w T2 2 14)) (h3 : M.isSym nm = false) :
    Calls Try.prog 7 #[.int .u8 a, .int .u8 d] W (GivesB W true) := by
  have H1 := hid h1
  have H2 := hid h2
  have hnl : nm.length = K := by rw [hnm, List.length_replicate]
  have HS := hid (fun w => symbol_n nm (by omega) w)
  rw [h3] at HS
  have hKi : 19 + (r : Int) = (K : Int) := by omega
  have hSi : 3999 + (m : Int) = (S : Int) := by omega
  have HN := hid hnm
  have hx1 : (⟨#[97, 32]⟩ : ByteArray) ++ ⟨nm.toArray⟩ = ⟨(97 :: 32 :: nm).toArray⟩ := app_str [97, 32] nm
  have hx2 : (⟨#[97, 32, 58]⟩ : ByteArray) ++ ⟨nm.toArray⟩ = ⟨(97 :: 32 :: 58 :: nm).toArray⟩ := app_str [97, 32, 58] nm
  have HX1 := hid hx1
  have HX2 := hid hx2
  have hszn : (⟨nm.toArray⟩ : ByteArray).size = K := by rw [Lib.size_eq]; exact hnl
  have HSZN := hid hszn
  have HW := hid (fun w => words_is (s := List.replicate S 32) (ts := []) (k := S) (z := 0) (by simp; omega) (M.spaces_ok hS).1 (M.spaces_ok hS).2.1 (M.spaces_ok hS).2.2 w)
  have HMK := hid (fun w => make_u8 S (by omega) w)
  have hK21 : K ≤ 21 := by omega
  have HNL := hid hnl
  clear h1 h2 h3 hnm hx1 hx2 hszn hKr hSm hnl
  go_enter Try.func7, Try.ntmps7
  go_wp2_with fail
  refine (known_n _).mono ?_
  rintro e w1 ⟨rfl, hb⟩
  have E := hid hb
  clear hb
  go_wp2
  go_loop [6, 7] (fun x i => ∃ k : Nat, k ≤ K ∧ i = .int .i64 (k : Int) ∧ x = str (List.replicate k 113)) (fun _ i => K - (intOf i).toNat)
  case atStart => exact ⟨0, Nat.zero_le _, rfl, rfl⟩
  case round =>
    obtain ⟨k, hk, rfl, rfl⟩ := hrel
    rcases Nat.lt_or_ge k K with hlt | hge
    · have hlt' : (k : Int) < (K : Int) := by omega
      obtain ⟨u, hu⟩ : ∃ u, List.replicate k (113 : UInt8) = u := ⟨_, rfl⟩
      obtain ⟨u', hu'⟩ : ∃ u', List.replicate (k + 1) (113 : UInt8) = u' := ⟨_, rfl⟩
      rw [hu]
      have hx : (⟨u.toArray⟩ : ByteArray) ++ ⟨#[113]⟩ = ⟨u'.toArray⟩ := by rw [← hu', ← hu, List.replicate_succ']; exact app_str _ [113]
      have hsz : (⟨u.toArray⟩ : ByteArray).size = k := by rw [Lib.size_eq, ← hu]; simp
      have hul : u.length = k := by rw [← hu]; simp
      have HU := hid hu'
      clear hu hu'
      go_wp2
      go_round
      case rel => exact ⟨k + 1, by omega, by simp, by rw [HU.out]⟩
      case measure => simp [intOf]; omega
    · obtain rfl : k = K := by omega
      rw [← HN.out]
      have hx1 := HX1.out
      have hsz1 := HSZN.out
      go_wp2_with fail
      refine (H1.out _).mono ?_
      rintro e w2 ⟨v1, rfl, hv1, hb⟩
      obtain ⟨A1, c1, rfl⟩ := hv1.shape
      replace E := hid (E.out.trans hb)
      clear hb hv1 hx1
      have hx2 := HX2.out
      go_wp2_with fail
      refine (H2.out _).mono ?_
      rintro e w3 ⟨v2, rfl, hv2, hb⟩
      obtain ⟨A2, c2, rfl⟩ := hv2.shape
      replace E := hid (E.out.trans hb)
      clear hb hv2 hx2
      have hmk := HMK.out w3
      go_wp2
      clear hmk
      have hE3 := E.out.size
      go_loopw [16] (fun i wr => ∃ j : Nat, j ≤ S ∧ i = .int .i64 (j : Int) ∧ Hid (Blk8 wr w3.heap.size (blanked S j) ∧ Ext W wr)) (fun i _ => S - (intOf i).toNat)
      case atStart => exact ⟨0, Nat.zero_le _, rfl, (heap_alloc_new w3 _), E.out.alloc' _⟩
      case round =>
        obtain ⟨j, hj, rfl, hR⟩ := hrel
        rcases Nat.lt_or_ge j S with hjS | hjS
        · have hjS' : (j : Int) < (S : Int) := by omega
          have hc := hR.out.1.cell (blanked_at hjS).1
          have hf := hR.out.1.free j
          replace hc : wr.cell? ⟨w3.heap.size, j, none⟩ = some (.int .u8 0) := hc
          go_wp2
          go_roundw
          case rel => exact ⟨j + 1, by omega, by simp, by have := hR.out.1.put j (b := 32) (z := 32) rfl; rw [(blanked_at hjS).2] at this; exact this, hR.out.2.set' hE3 _⟩
          case measure => simp [intOf]; omega
        · obtain rfl : j = S := by omega
          obtain ⟨sp, hsp⟩ : ∃ sp, List.replicate j (32 : UInt8) = sp := ⟨_, rfl⟩
          have hbl : Blk8 wr w3.heap.size sp := by have := hR.out.1; unfold blanked at this; rw [Nat.sub_self, hsp] at this; simpa using this
          have HW' := HW.out
          rw [hsp] at HW'
          have HW2 := hid HW'
          have hcv : (convert 38 9 (.slice (some ⟨w3.heap.size, 0, none⟩) j j)).run Try.prog wr = .ok (.string ⟨sp.toArray⟩) wr := bytes_run sp _ wr hbl (by rw [← hsp]; simp)
          clear HW' hbl hsp
          have hk20 : 20 < (k : Int) := by omega
          have hS0 : (j : Int) ≤ 4000 := by omega
          have hS1 : decide (4000 < (j : Int)) = false := by simp; omega
          go_wp2_with fail
          refine (HW2.out _).mono ?_
          rintro e w4 ⟨v3, rfl, hv3, hb⟩
          obtain ⟨A3, c3, rfl⟩ := hv3.shape
          have E4 := hid (hR.out.2.trans hb)
          clear hb hv3 hcv
          go_wp2_with fail
          refine (HS.out _).mono ?_
          rintro e w5 ⟨rfl, hb⟩
          have E5 := hid (E4.out.trans hb)
          clear hb
          go_wp2
          go_ret
          exact ⟨rfl, E5.out⟩
set_option maxHeartbeats 8000000 in
set_option maxRecDepth 100000 in
theorem lexLong_ql (W : World) (a d : Int) (ha0 : 0 ≤ a) (hd0 : 0 ≤ d) (r m : Nat) (hr : a % 3 = (r : Int)) (hm : d % 3 = (m : Int)) (hr3 : r < 3) (hm3 : m < 3) (K S : Nat) (hKr : K = 19 + r) (hSm : S = 3999 + m) (hK : 20 < K) (hK2 : K ≤ 21) (T1 T2 : List M.Tok) (hS : 4000 < S) (hS2 : S ≤ 4001) (nm : List UInt8) (hnm : nm = List.replicate K 113)
    (h1 : ∀ w, Calls Try.prog 10 #[str (97 :: 32 :: nm)] w (GivesW w T1 2 14)) (h2 : ∀ w, Calls Try.prog 10 #[str (97 :: 32 :: 58 :: nm)] w (GivesW w T2 2 14)) (h3 : M.isSym nm = false) :
    Calls Try.prog 7 #[.int .u8 a, .int .u8 d] W (GivesB W true) := by
  have H1 := hid h1
  have H2 := hid h2
  have hnl : nm.length = K := by rw [hnm, List.length_replicate]
  have HS := hid (fun w => symbol_n nm (by omega) w)
  rw [h3] at HS
  have hKi : 19 + (r : Int) = (K : Int) := by omega
  have hSi : 3999 + (m : Int) = (S : Int) := by omega
  have HN := hid hnm
  have hx1 : (⟨#[97, 32]⟩ : ByteArray) ++ ⟨nm.toArray⟩ = ⟨(97 :: 32 :: nm).toArray⟩ := app_str [97, 32] nm
  have hx2 : (⟨#[97, 32, 58]⟩ : ByteArray) ++ ⟨nm.toArray⟩ = ⟨(97 :: 32 :: 58 :: nm).toArray⟩ := app_str [97, 32, 58] nm
  have HX1 := hid hx1
  have HX2 := hid hx2
  have hszn : (⟨nm.toArray⟩ : ByteArray).size = K := by rw [Lib.size_eq]; exact hnl
  have HSZN := hid hszn
  have HW := hid (fun w => words_is (s := List.replicate S 32) (ts := []) (k := 0) (z := 11) (by simp; omega) (M.spaces_no (by omega)).1 (M.spaces_no (by omega)).2.1 (M.spaces_no (by omega)).2.2 w)
  have HMK := hid (fun w => make_u8 S (by omega) w)
  have hK21 : K ≤ 21 := by omega
  have HNL := hid hnl
  clear h1 h2 h3 hnm hx1 hx2 hszn hKr hSm hnl
  go_enter Try.func7, Try.ntmps7
  go_wp2_with fail
  refine (known_n _).mono ?_
  rintro e w1 ⟨rfl, hb⟩
  have E := hid hb
  clear hb
  go_wp2
  go_loop [6, 7] (fun x i => ∃ k : Nat, k ≤ K ∧ i = .int .i64 (k : Int) ∧ x = str (List.replicate k 113)) (fun _ i => K - (intOf i).toNat)
  case atStart => exact ⟨0, Nat.zero_le _, rfl, rfl⟩
  case round =>
    obtain ⟨k, hk, rfl, rfl⟩ := hrel
    rcases Nat.lt_or_ge k K with hlt | hge
    · have hlt' : (k : Int) < (K : Int) := by omega
      obtain ⟨u, hu⟩ : ∃ u, List.replicate k (113 : UInt8) = u := ⟨_, rfl⟩
      obtain ⟨u', hu'⟩ : ∃ u', List.replicate (k + 1) (113 : UInt8) = u' := ⟨_, rfl⟩
      rw [hu]
      have hx : (⟨u.toArray⟩ : ByteArray) ++ ⟨#[113]⟩ = ⟨u'.toArray⟩ := by rw [← hu', ← hu, List.replicate_succ']; exact app_str _ [113]
      have hsz : (⟨u.toArray⟩ : ByteArray).size = k := by rw [Lib.size_eq, ← hu]; simp
      have hul : u.length = k := by rw [← hu]; simp
      have HU := hid hu'
      clear hu hu'
      go_wp2
      go_round
      case rel => exact ⟨k + 1, by omega, by simp, by rw [HU.out]⟩
      case measure => simp [intOf]; omega
    · obtain rfl : k = K := by omega
      rw [← HN.out]
      have hx1 := HX1.out
      have hsz1 := HSZN.out
      go_wp2_with fail
      refine (H1.out _).mono ?_
      rintro e w2 ⟨v1, rfl, hv1, hb⟩
      obtain ⟨A1, c1, rfl⟩ := hv1.shape
      replace E := hid (E.out.trans hb)
      clear hb hv1 hx1
      have hx2 := HX2.out
      go_wp2_with fail
      refine (H2.out _).mono ?_
      rintro e w3 ⟨v2, rfl, hv2, hb⟩
      obtain ⟨A2, c2, rfl⟩ := hv2.shape
      replace E := hid (E.out.trans hb)
      clear hb hv2 hx2
      have hmk := HMK.out w3
      go_wp2
      clear hmk
      have hE3 := E.out.size
      go_loopw [16] (fun i wr => ∃ j : Nat, j ≤ S ∧ i = .int .i64 (j : Int) ∧ Hid (Blk8 wr w3.heap.size (blanked S j) ∧ Ext W wr)) (fun i _ => S - (intOf i).toNat)
      case atStart => exact ⟨0, Nat.zero_le _, rfl, (heap_alloc_new w3 _), E.out.alloc' _⟩
      case round =>
        obtain ⟨j, hj, rfl, hR⟩ := hrel
        rcases Nat.lt_or_ge j S with hjS | hjS
        · have hjS' : (j : Int) < (S : Int) := by omega
          have hc := hR.out.1.cell (blanked_at hjS).1
          have hf := hR.out.1.free j
          replace hc : wr.cell? ⟨w3.heap.size, j, none⟩ = some (.int .u8 0) := hc
          go_wp2
          go_roundw
          case rel => exact ⟨j + 1, by omega, by simp, by have := hR.out.1.put j (b := 32) (z := 32) rfl; rw [(blanked_at hjS).2] at this; exact this, hR.out.2.set' hE3 _⟩
          case measure => simp [intOf]; omega
        · obtain rfl : j = S := by omega
          obtain ⟨sp, hsp⟩ : ∃ sp, List.replicate j (32 : UInt8) = sp := ⟨_, rfl⟩
          have hbl : Blk8 wr w3.heap.size sp := by have := hR.out.1; unfold blanked at this; rw [Nat.sub_self, hsp] at this; simpa using this
          have HW' := HW.out
          rw [hsp] at HW'
          have HW2 := hid HW'
          have hcv : (convert 38 9 (.slice (some ⟨w3.heap.size, 0, none⟩) j j)).run Try.prog wr = .ok (.string ⟨sp.toArray⟩) wr := bytes_run sp _ wr hbl (by rw [← hsp]; simp)
          clear HW' hbl hsp
          have hk20 : 20 < (k : Int) := by omega
          have hS0 : 4000 < (j : Int) := by omega
          have hS1 : decide ((j : Int) ≤ 4000) = false := by simp; omega
          go_wp2_with fail
          refine (HW2.out _).mono ?_
          rintro e w4 ⟨v3, rfl, hv3, hb⟩
          obtain ⟨A3, c3, rfl⟩ := hv3.shape
          have E4 := hid (hR.out.2.trans hb)
          clear hb hv3 hcv
          go_wp2_with fail
          refine (HS.out _).mono ?_
          rintro e w5 ⟨rfl, hb⟩
          have E5 := hid (E4.out.trans hb)
          clear hb
          go_wp2
          go_ret
          exact ⟨rfl, E5.out⟩
theorem lexLong_walk (W : World) (a : Int) (ha : 0 ≤ a ∧ a ≤ 255) (d : Int) (hd : 0 ≤ d ∧ d ≤ 255) : Calls Try.prog 7 #[.int .u8 a, .int .u8 d] W (GivesB W true) := by
  obtain ⟨r, hr⟩ : ∃ r : Nat, a % 3 = (r : Int) := ⟨(a % 3).toNat, by omega⟩
  obtain ⟨m, hm⟩ : ∃ m : Nat, d % 3 = (m : Int) := ⟨(d % 3).toNat, by omega⟩
  have hr3 : r < 3 := by omega
  have hm3 : m < 3 := by omega
  have hcase : r = 0 ∨ r = 1 ∨ r = 2 := by omega
  have hmc : m ≤ 1 ∨ m = 2 := by omega
  rcases hcase with rfl | rfl | rfl
  · have h1 := fun w => words_is (s := 97 :: 32 :: List.replicate 19 113) (by decide) rfl rfl (show M.wErr (97 :: 32 :: List.replicate 19 113) = 0 by decide +kernel) w
    have h2 := fun w => words_is (s := 97 :: 32 :: 58 :: List.replicate 19 113) (by decide) rfl rfl (show M.wErr (97 :: 32 :: 58 :: List.replicate 19 113) = 0 by decide +kernel) w
    rcases hmc with h | h
    · exact lexLong_ps W a d ha.1 hd.1 0 m hr hm hr3 hm3 19 (3999 + m) rfl rfl (by omega) _ _ (by decide +kernel) _ _ (by omega) _ rfl h1 h2 (by decide +kernel)
    · exact lexLong_pl W a d ha.1 hd.1 0 m hr hm hr3 hm3 19 (3999 + m) rfl rfl (by omega) _ _ (by decide +kernel) _ _ (by omega) (by omega) _ rfl h1 h2 (by decide +kernel)
  · have h1 := fun w => words_is (s := 97 :: 32 :: List.replicate 20 113) (by decide) rfl rfl (show M.wErr (97 :: 32 :: List.replicate 20 113) = 0 by decide +kernel) w
    have h2 := fun w => words_is (s := 97 :: 32 :: 58 :: List.replicate 20 113) (by decide) rfl rfl (show M.wErr (97 :: 32 :: 58 :: List.replicate 20 113) = 0 by decide +kernel) w
    rcases hmc with h | h
    · exact lexLong_ps W a d ha.1 hd.1 1 m hr hm hr3 hm3 20 (3999 + m) rfl rfl (by omega) _ _ (by decide +kernel) _ _ (by omega) _ rfl h1 h2 (by decide +kernel)
    · exact lexLong_pl W a d ha.1 hd.1 1 m hr hm hr3 hm3 20 (3999 + m) rfl rfl (by omega) _ _ (by decide +kernel) _ _ (by omega) (by omega) _ rfl h1 h2 (by decide +kernel)
  · have h1 := fun w => words_is (s := 97 :: 32 :: List.replicate 21 113) (by decide) rfl (show M.wAt (97 :: 32 :: List.replicate 21 113) = 2 by decide +kernel) (show M.wErr (97 :: 32 :: List.replicate 21 113) = 14 by decide +kernel) w
    have h2 := fun w => words_is (s := 97 :: 32 :: 58 :: List.replicate 21 113) (by decide) rfl (show M.wAt (97 :: 32 :: 58 :: List.replicate 21 113) = 2 by decide +kernel) (show M.wErr (97 :: 32 :: 58 :: List.replicate 21 113) = 14 by decide +kernel) w
    rcases hmc with h | h
    · exact lexLong_qs W a d ha.1 hd.1 2 m hr hm hr3 hm3 21 (3999 + m) rfl rfl (by omega) (by omega) _ _ (by omega) _ rfl h1 h2 (by decide +kernel)
    · exact lexLong_ql W a d ha.1 hd.1 2 m hr hm hr3 hm3 21 (3999 + m) rfl rfl (by omega) (by omega) _ _ (by omega) (by omega) _ rfl h1 h2 (by decide +kernel)

set_option maxRecDepth 100000 in
theorem lexLong_lifted (os : Os) (started : os.Started) (H : Type) (enc : TypeId × Value → H) :
    ReturnsInHanded {} Try.checked os 7 .any (Rows.lexLongSpec.pre6 enc Try.prog Try.f7 Rows.lexLongRow.domain false) (Rows.lexLongSpec.post enc Try.prog Try.f7 false true false false) := by
  refine returnsInHanded_of_change (C := Try.checked) own started (by kernel_rfl) Try.func7
    (ChangeSpec.witness6 (enc := enc) (C := Try.checked) false ⟨#[], #[.int .u8 0, .int .u8 0], []⟩ 8 (by kernel_rfl) (by kernel_rfl) (by kernel_rfl) (by kernel_rfl)) ?_
  intro W base args ds gs before hval0 hW _ _
  have hval : ∀ (j : Nat) t v, Try.f7.params[j]? = some t → args[j]? = some v → Value.okWide Try.prog W .any base t v := hval0
  have hW' := hW
  obtain ⟨p, q, hA0, hV, rfl, hfz, hnd⟩ := hW
  have hA : DataW.TrodAll enc Try.prog W 0 (fun _ => true) true Try.f7.params.toList args.toList ds p := hA0
  rw [Try.params7] at hA hval
  obtain ⟨v0, vs0, d0, ds0, p0, q0, hargs, rfl, rfl, h0, r0⟩ := trodAll_cons hA
  obtain ⟨v1, vs1, d1, ds1, p1, q1, rfl, rfl, rfl, h1, r1⟩ := trodAll_cons r0
  obtain ⟨rfl, rfl, rfl⟩ := trodAll_nil r1
  obtain rfl : args = #[v0, v1] := by cases args; simp_all
  obtain ⟨rfl, rfl⟩ := trodVars_none hV
  obtain ⟨a0, rfl, -, -, w0⟩ := open_int Try.underlying5 (hval 0 5 v0 rfl rfl) h0
  obtain ⟨a1, rfl, -, -, w1⟩ := open_int Try.underlying5 (hval 1 5 v1 rfl rfl) h1
  clear hA0 hval0
  refine (lexLong_walk W a0 (u8_of_wf w0) a1 (u8_of_wf w1)).mono fun e W' ⟨he, hg⟩ => ?_
  subst he
  exact ⟨_, rfl, law_post hW' rfl rfl (by kernel_rfl) (by kernel_rfl) hg⟩

theorem lexLong_over : Rows.lexLongRow.holds Try.pinned (OpenSpec.ofChange Rows.lexLongSpec) :=
  OpenClaim.holds_of_wide 7 Try.f7 rfl rfl rfl rfl rfl rfl rfl ⟨rfl, rfl, rfl, rfl, rfl⟩ rfl rfl rfl rfl rfl (by kernel_rfl) Try.func7 (by kernel_rfl)
    (of_decide_eq_true (by kernel_rfl)) (by unfold Func.isWrapper; first | (rw [if_pos (by decide +kernel)]; kernel_rfl) | (rw [if_neg (by decide +kernel)]; exact ⟨rfl, rfl⟩))
    (fun os started H enc _ => lexLong_lifted os started H enc)

theorem lexLong_proved : Rows.LexLongSaid := lexLong_over

end Go.Proofs.Ytmnchlikhbendaa
