/-
  Words of layer 8: nothing that was there has turned; texts; rows of texts.
-/
import Derived.Test.YtceplnfjlncekaaRows
import Derived.Test.YtceplnfjlncekaaShelf
import Derived.Test.YtceplnfjlncekaaQMath
import Derived.WalkKit
import Derived.Handy
import Derived.Laws.OwnMore
import Derived.Deep.Draws
import Derived.Deep.QuietTactic
import Derived.BigQuiet
import Derived.Outline
import Derived.Deep.Cut
import Derived.Deep.CutBlock
import Derived.Deep.LoopGhost
import Derived.Deep.RegionWith
import Derived.Deep.Slices
import Derived.Lib.FrozenHead
import Derived.Lib.OthersKept
import Derived.Lib.UnsafeStr
import Derived.Lib.Strings
import Derived.Lib.Bytealg
namespace Go.Proofs.Ytceplnfjlncekaa
set_option linter.unusedSimpArgs false
set_option linter.unusedVariables false
open Go.RowKit

theorem hid {p : Prop} (h : p) : Hid p := h
theorem ret_bool {a b : Bool} (h : a = b) : Ending.returned (.bool a) = Ending.returned (.bool b) := by rw [h]
theorem ret_int {k : IntKind} {a b : Int} (h : a = b) : Ending.returned (.int k a) = Ending.returned (.int k b) := by rw [h]
theorem addr_block (a : Addr) (n : Nat) : (a.add n).block = a.block := by unfold Addr.add; split <;> rfl
/-- Nothing that was there has turned. -/
def Ext (w w' : World) : Prop := Below w.heap.size w w'
theorem Ext.refl (w : World) : Ext w w := Below.refl _ _
theorem Ext.trans {a b c : World} (h : Ext a b) (k : Ext b c) : Ext a c := Below.trans (B := a.heap.size) h (Below.mono k h.size)
theorem Ext.below {a b : World} (h : Ext a b) : Below a.heap.size a b := h
theorem Ext.alloc (w : World) (o : Obj) : Ext w (w.alloc o) := (Below.refl _ _).alloc (Nat.le_refl _) o
theorem Ext.alloc' {w w' : World} (h : Ext w w') (o : Obj) : Ext w (w'.alloc o) := h.trans (Ext.alloc _ _)
theorem Ext.set' {w w' : World} (h : Ext w w') {p : Addr} (hp : w.heap.size ≤ p.block) (u : Value) : Ext w (w'.setCell p u) := Below.setCell h hp u
theorem Ext.drew' {w w' : World} (h : Ext w w') : Ext w w'.drew := Below.drew h
theorem Ext.drewN' {w w' : World} (h : Ext w w') (n : Nat) : Ext w (w'.drewN n) := ⟨h.os, h.tape, h.output, h.size, h.block⟩
theorem Ext.cell {w w' : World} (h : Ext w w') {p : Addr} {v : Value} (hc : w.cell? p = some v) : w'.cell? p = some v := by
 have hl := World.block_lt_of_cell? w _ hc
 rw [← hc]; exact World.cell?_of_block (h.block _ hl)
theorem Ext.then_ {w w' w'' : World} (h : Ext w w') (k : Below w'.heap.size w' w'') : Ext w w'' := h.trans k
/-- A text as the model has it. -/
abbrev str (l : List UInt8) : Value := .string ⟨l.toArray⟩
theorem ext_str (l : List UInt8) (a b : Nat) : (⟨l.toArray⟩ : ByteArray).extract a b = ⟨((l.drop a).take (b - a)).toArray⟩ := by rw [Lib.extract_eq]
theorem ext_drop (l : List UInt8) (a : Nat) : (⟨l.toArray⟩ : ByteArray).extract a l.length = ⟨(l.drop a).toArray⟩ := by
 rw [ext_str, List.take_of_length_le (by simp)]
theorem app_str (a b : List UInt8) : (⟨a.toArray⟩ : ByteArray) ++ ⟨b.toArray⟩ = ⟨(a ++ b).toArray⟩ := by
 apply ByteArray.ext
 simp
theorem idx_str (t : TypeId) (ht : Try.prog.underlying t = some .string) (l : List UInt8) (i : Nat) (b : UInt8) {z : Int} (hz : z = (i : Int)) (hb : l[i]? = some b) (w : World) :
 (Instr.index t (str l) (.int .i64 z)).run Try.prog w = .ok (.int .u8 (b.toNat : Int)) w := by
 subst hz
 obtain ⟨hlt, he⟩ := List.getElem?_eq_some_iff.1 hb
 have hs : i < (⟨l.toArray⟩ : ByteArray).size := by rw [Lib.size_eq]; simpa using hlt
 rw [run_index_string w t _ .i64 _ ht, dif_pos ⟨by omega, by omega⟩]
 have e : ((i : Int)).toNat = i := by omega
 simp only [e]
 subst he
 rfl
/-- A row of texts, in a block. -/
def Txts (w : World) (g : Nat) (cs : List (List UInt8)) : Prop := ∀ k x, cs[k]? = some x → w.cell? ⟨g, k, none⟩ = some (str x)
theorem Txts.new1 (w : World) (a : List UInt8) (T : TypeId) : Txts (w.alloc (.cells #[str a] T)) w.heap.size [a] := by
 intro k x hx
 rcases k with _ | k
 ·simp at hx; subst hx; rw [World.cell?_alloc_new]; rfl
 ·simp at hx
theorem Txts.new3 (w : World) (a b c : List UInt8) (T : TypeId) : Txts (w.alloc (.cells #[str a, str b, str c] T)) w.heap.size [a, b, c] := by
 intro k x hx
 rcases k with _ | _ | _ | k
 ·simp at hx; subst hx; rw [World.cell?_alloc_new]; rfl
 ·simp at hx; subst hx; rw [World.cell?_alloc_new]; rfl
 ·simp at hx; subst hx; rw [World.cell?_alloc_new]; rfl
 ·simp at hx
theorem indexByte_has (l : List UInt8) (b : UInt8) : (0 ≤ Lib.indexByte l b) ↔ l.contains b = true := by
 induction l with
 | nil => simp [Lib.indexByte]
 | cons x r ih =>
  have hge := Lib.indexByte_ge r b
  unfold Lib.indexByte
  by_cases h : x = b
  ·subst h; simp
  ·have h' : (x == b) = false := by simpa using h
   have h2 : (b == x) = false := by simpa using fun e => h e.symm
   simp only [h', Bool.false_eq_true, if_false, List.contains_cons, h2, Bool.false_or]
   rw [← ih]
   split
   ·rename_i h3
    have h3' : Lib.indexByte r b = -1 := by simpa using h3
    omega
   ·rename_i h3
    have h3' : Lib.indexByte r b ≠ -1 := by simpa using h3
    omega
theorem idxByte_n (l : List UInt8) (b : UInt8) (w : World) {z : Int} (hz : Lib.indexByte l b = z) : Calls Try.prog 74 #[str l, .int .u8 (b.toNat : Int)] w fun e w' => e = .returned (.int .i64 z) ∧ w = w' := by
 have h := Try.strings_IndexByte ⟨l.toArray⟩ (b.toNat : Int) w
 have e : ((b.toNat : Int)).toNat.toUInt8 = b := by simp
 rw [e] at h
 subst hz
 exact h.mono fun e w' ⟨h1, h2⟩ => ⟨h1, h2.symm⟩

set_option maxHeartbeats 1000000 in
theorem among_n (b : UInt8) (g : Nat) (cs : List (List UInt8)) (w : World) (hc : Txts w g cs) {n : Nat} (hn : n = cs.length) (hn9 : n ≤ 1000) :
 Calls Try.prog 68 #[.int .u8 (b.toNat : Int), .slice (some ⟨g, 0, none⟩) n n] w fun e w' => e = .returned (.bool (M.among cs b)) ∧ w = w' := by
 have HC := hid hc
 have HN := hid hn
 clear hc hn
 go_enter Try.func68, Try.ntmps68
 go_wp2
 go_loop [9] (fun i => ∃ k : Nat, k ≤ n ∧ i = .int .i64 (k : Int) ∧ Hid (M.among (cs.take k) b = false)) (fun i => n - (intOf i).toNat)
 case atStart => exact ⟨0, Nat.zero_le _, rfl, rfl⟩
 case round =>
  obtain ⟨k, hk, rfl, ht⟩ := hrel
  rcases Nat.lt_or_ge k n with hlt | hge
  ·obtain ⟨c, hc⟩ : ∃ c, cs[k]? = some c := ⟨_, List.getElem?_eq_getElem (by rw [← HN.out]; exact hlt)⟩
   have hcell := HC.out k c hc
   obtain ⟨z, hz⟩ : ∃ z, Lib.indexByte c b = z := ⟨_, rfl⟩
   have hzc := indexByte_has c b
   have hge1 := Lib.indexByte_ge c b
   rw [hz] at hzc hge1
   have HK := hid hc
   have HZ := hid hz
   have hlt' : (k : Int) < (n : Int) := by omega
   have hstep : M.among (cs.take (k + 1)) b = (M.among (cs.take k) b || c.contains b) := by
    rw [List.take_add_one, HK.out]; simp [M.among]
   have HS := hid hstep
   clear hc hz hstep
   rcases hb : c.contains b with _ | _
   ·have hz0 : decide (0 ≤ z) = false := by
     rw [decide_eq_false_iff_not, hzc, hb]; simp
    have HB := hid hb
    have hz1 : z = -1 := by have : ¬ 0 ≤ z := by simpa using hz0
                            omega
    subst hz1
    clear hb hzc hz0 hge1
    go_wp2_with (go_at_call 74; refine (idxByte_n c b _ HZ.out).mono ?_; rintro e w' ⟨rfl, rfl⟩)
    go_round
    case rel => exact ⟨k + 1, by omega, by simp, by show _ = _; rw [HS.out, ht.out, HB.out]; rfl⟩
    case measure => simp [intOf]; omega
   ·have hz0 : 0 ≤ z := hzc.2 hb
    have HB := hid hb
    have HM := hid (show M.among cs b = true by unfold M.among; exact List.any_eq_true.2 ⟨c, List.mem_of_getElem? HK.out, HB.out⟩)
    clear hb hzc
    go_wp2_with (go_at_call 74; refine (idxByte_n c b _ HZ.out).mono ?_; rintro e w' ⟨rfl, rfl⟩)
    go_ret
    rw [HM.out]
    exact ⟨rfl, rfl⟩
  ·obtain rfl : k = n := by omega
   have HM := hid (show M.among cs b = false by have := ht.out; rw [HN.out, List.take_length] at this; exact this)
   clear ht
   go_wp2
   go_ret
   rw [HM.out]
   exact ⟨rfl, rfl⟩
namespace M
theorem takeWhile_at {p : UInt8 → Bool} {l : List UInt8} {k : Nat} (hk : k ≤ l.length) (ha : (l.take k).all p = true) (he : k = l.length ∨ ∃ b, l[k]? = some b ∧ p b = false) : (l.takeWhile p).length = k ∧ l.takeWhile p = l.take k := by
 have key : l.takeWhile p = l.take k := by
  induction l generalizing k with
  | nil => simp
  | cons b r ih =>
   cases k with
   | zero =>
    rcases he with he | ⟨c, h1, h2⟩
    ·simp at he
    ·simp at h1; subst h1; simp [h2]
   | succ k =>
    rw [List.take_succ_cons, List.all_cons, Bool.and_eq_true] at ha
    rw [List.takeWhile_cons, if_pos ha.1, List.take_succ_cons, ih (by simpa using hk) ha.2 (by simpa using he)]
 exact ⟨by rw [key, List.length_take]; omega, key⟩
theorem all_snoc {p : UInt8 → Bool} {l : List UInt8} {k : Nat} {b : UInt8} (h : l[k]? = some b) (ht : (l.take k).all p = true) (hb : p b = true) : (l.take (k + 1)).all p = true := by
 rw [List.take_add_one, h, List.all_append, ht]; simp [hb]
end M
set_option maxHeartbeats 1000000 in
theorem row_n (s : List UInt8) (g : Nat) (cs : List (List UInt8)) (w : World) (hc : Txts w g cs) {n : Nat} (hn : n = cs.length) (hn9 : n ≤ 1000) (hs : s.length ≤ 1000000000000) {m : Nat} (hm : (s.takeWhile (M.among cs)).length = m) :
 Calls Try.prog 59 #[str s, .slice (some ⟨g, 0, none⟩) n n] w fun e w' => e = .returned (.int .i64 (m : Int)) ∧ w = w' := by
 have HC := hid hc
 have HN := hid hn
 have HM := hid hm
 obtain ⟨L, hL⟩ : ∃ L, L = s.length := ⟨_, rfl⟩
 have hL9 : L ≤ 1000000000000 := by omega
 have HL := hid hL
 have hsz : (s.length : Int) = (L : Int) := by rw [hL]
 clear hc hn hm hL hs
 go_enter Try.func59, Try.ntmps59
 go_wp2
 go_loop [5] (fun i => ∃ k : Nat, k ≤ L ∧ i = .int .i64 (k : Int) ∧ Hid ((s.take k).all (M.among cs) = true)) (fun i => L - (intOf i).toNat)
 case atStart => exact ⟨0, Nat.zero_le _, rfl, rfl⟩
 case round =>
  obtain ⟨k, hk, rfl, ht⟩ := hrel
  rcases Nat.lt_or_ge k L with hlt | hge
  ·obtain ⟨c, hc⟩ : ∃ c, s[k]? = some c := ⟨_, List.getElem?_eq_getElem (by rw [← HL.out]; exact hlt)⟩
   have HK := hid hc
   have hidx := idx_str 9 Try.underlying9 s k c rfl hc
   have hlt' : (k : Int) < (L : Int) := by omega
   obtain ⟨q, hq⟩ : ∃ q, M.among cs c = q := ⟨_, rfl⟩
   have HQ := hid hq
   clear hc hq
   have H1 : Calls Try.prog 68 #[.int .u8 (c.toNat : Int), .slice (some ⟨g, 0, none⟩) n n] w fun e w' => e = .returned (.bool q) ∧ w = w' := by
    have := among_n c g cs w HC.out HN.out hn9
    rw [HQ.out] at this; exact this
   have HA := hid H1
   clear H1
   cases q
   ·go_wp2_with (go_at_call 68; refine HA.out.mono ?_; rintro e w' ⟨rfl, rfl⟩)
    go_ret
    obtain rfl : k = m := by
     rw [← HM.out]; exact (M.takeWhile_at (by rw [← HL.out]; exact hk) ht.out (.inr ⟨c, HK.out, HQ.out⟩)).1.symm
    exact ⟨rfl, rfl⟩
   ·go_wp2_with (go_at_call 68; refine HA.out.mono ?_; rintro e w' ⟨rfl, rfl⟩)
    go_round
    case rel => exact ⟨k + 1, by omega, by simp, M.all_snoc HK.out ht.out HQ.out⟩
    case measure => simp [intOf]; omega
  ·obtain rfl : k = L := by omega
   go_wp2
   go_ret
   obtain rfl : k = m := by
    rw [← HM.out]; exact (M.takeWhile_at (by rw [← HL.out]; exact Nat.le_refl _) ht.out (.inl HL.out)).1.symm
   exact ⟨rfl, rfl⟩
end Go.Proofs.Ytceplnfjlncekaa
