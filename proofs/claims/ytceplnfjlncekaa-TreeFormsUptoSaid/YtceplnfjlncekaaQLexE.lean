/-
  Contracts: strings.Builder's WriteString; package lex's Print.
-/
import Derived.Test.YtceplnfjlncekaaQLexD
namespace Go.Proofs.Ytceplnfjlncekaa
set_option linter.unusedSimpArgs false
set_option linter.unusedVariables false
open Go.RowKit

abbrev TB : TypeId := 77
abbrev T8 : TypeId := 5
set_option maxHeartbeats 1000000 in
set_option maxRecDepth 100000 in
theorem check_new (b : Nat) (w : World) (h0 : w.cell? ⟨b, 0, none⟩ = some (.pointer none)) (hsh : w.shape? b = some (TB, 2)) (hfz : w.frozen? ⟨b, 0, none⟩ = false) :
 Calls Try.prog 67 #[.pointer (some ⟨b, 0, none⟩)] w fun e w' => e = .returned (.tuple #[]) ∧ w' = w.setCell ⟨b, 0, none⟩ (.pointer (some ⟨b, 0, none⟩)) := by
 obtain ⟨j, hj, hjs⟩ := Option.map_eq_some_iff.1 (show (Try.prog.info? TB).map (·.size) = some 2 by kernel_rfl)
 have hto := Lib.run_to_unsafe w ⟨b, 0, none⟩ Try.underlying74 Try.underlying97 hj (by rw [hjs]; decide) hsh (Nat.zero_lt_succ 1)
 have hfrom := Lib.run_from_unsafe w ⟨b, 0, none⟩ Try.underlying97 Try.underlying74 hj hsh (by kernel_rfl)
 have hno : (callFunc 73 #[.pointer (some ⟨b, 0, none⟩)]).run Try.prog w = .ok (.value (.pointer (some ⟨b, 0, none⟩))) w := by
  rw [run_callFunc_extern (show Try.prog.funcs[73]? = some Try.f73 by kernel_rfl) (by kernel_rfl) (by kernel_rfl) (by kernel_rfl) (e := Extern.AbiNoEscape.same) (by kernel_rfl), Lib.run_noEscape]
  rfl
 go_enter Try.func67, Try.ntmps67
 go_wp2
 go_end0
 exact ⟨rfl, rfl⟩
theorem check_old (b : Nat) (w : World) (h0 : w.cell? ⟨b, 0, none⟩ = some (.pointer (some ⟨b, 0, none⟩))) :
 Calls Try.prog 67 #[.pointer (some ⟨b, 0, none⟩)] w fun e w' => e = .returned (.tuple #[]) ∧ w' = w := by
 obtain ⟨j, hj, hjs⟩ := Option.map_eq_some_iff.1 (show (Try.prog.info? TB).map (·.size) = some 2 by kernel_rfl)
 have hne := Lib.run_neq_ptr_same w ⟨b, 0, none⟩ Try.underlying74 hj
 go_enter Try.func67, Try.ntmps67
 go_wp2
 go_end0
 exact ⟨rfl, rfl⟩
/-- A builder that the call made itself. -/
def Bld (B b : Nat) (l : List UInt8) (w : World) : Prop := Lib.IsBuilderF TB T8 B b (Lib.byteCells l) w
theorem Bld.new (w : World) : Bld w.heap.size w.heap.size [] (w.alloc (.cells #[.pointer none, .slice none 0 0] TB)) :=
 .inl ⟨Nat.le_refl _, _, heap_alloc_new w _, World.ownsRowF_nil _ _ _ _, by simp [Value.ownBlock]⟩
theorem Bld.lt {B b : Nat} {l : List UInt8} {w : World} (h : Bld B b l w) : b < w.heap.size := by
 rcases h with ⟨_, v, hb, _⟩ | ⟨_, v, hb, _⟩ <;> exact (Array.getElem?_eq_some_iff.1 hb).1
theorem Bld.alloc {B b : Nat} {l : List UInt8} {w : World} (h : Bld B b l w) (o : Obj) : Bld B b l (w.alloc o) := by
 have key : ∀ p, Lib.BuilderAtF TB T8 B b p (Lib.byteCells l) w → Lib.BuilderAtF TB T8 B b p (Lib.byteCells l) (w.alloc o) := by
  rintro p ⟨hB, v, hb, hown, hne⟩
  have hlt : b < w.heap.size := (Array.getElem?_eq_some_iff.1 hb).1
  exact ⟨hB, v, (Below.heap_alloc w o b hlt).trans hb, hown.kept (World.grownBy_alloc w o none) (by cases v.ownBlock <;> simp), hne⟩
 exact h.imp (key _) (key _)
theorem Bld.up {B b : Nat} {l : List UInt8} {w w' : World} (h : Bld B b l w) (hE : Ext w w') : Bld B b l w' := by
 have key : ∀ p, Lib.BuilderAtF TB T8 B b p (Lib.byteCells l) w → Lib.BuilderAtF TB T8 B b p (Lib.byteCells l) w' := by
  rintro p ⟨hB, v, hb, hown, hne⟩
  have hlt : b < w.heap.size := (Array.getElem?_eq_some_iff.1 hb).1
  exact ⟨hB, v, (hE.block b hlt).trans hb, hown.kept (row := none) ⟨hE.os, hE.tape, hE.output, hE.size, fun k hk _ => hE.block k hk⟩ (by cases v.ownBlock <;> simp), hne⟩
 exact h.imp (key _) (key _)
theorem check_n {B b : Nat} {l : List UInt8} {w : World} (h : Bld B b l w) : Calls Try.prog 67 #[.pointer (some ⟨b, 0, none⟩)] w fun e w' => e = .returned (.tuple #[]) ∧ (Lib.BuilderAtF TB T8 B b (.pointer (some ⟨b, 0, none⟩)) (Lib.byteCells l) w' ∧ Below B w w' ∧ Lib.OthersKept T8 (some b) w w') := by
 rcases h with h | h
 ·refine (check_new b w h.cell0 h.shape h.frozen0).mono ?_
  rintro e w' ⟨rfl, rfl⟩
  exact ⟨rfl, h.used _, (Below.refl B w).setCell (p := ⟨b, 0, none⟩) h.1 _, (Lib.OthersKept.refl _ _ w).setCell ⟨b, 0, none⟩ rfl _⟩
 ·refine (check_old b w h.cell0).mono ?_
  rintro e w' ⟨rfl, rfl⟩
  exact ⟨rfl, h, Below.refl B _, Lib.OthersKept.refl _ _ _⟩
set_option maxHeartbeats 2000000 in
set_option maxRecDepth 100000 in
theorem writeS_n {B b : Nat} {l : List UInt8} {w : World} (h : Bld B b l w) (s : List UInt8) (hlen : l.length + s.length ≤ 1000000000000) (hBw : B ≤ w.heap.size) :
 Calls Try.prog 51 #[.pointer (some ⟨b, 0, none⟩), str s] w fun e w' => e = .returned (.tuple #[.int .i64 s.length, .nilIface]) ∧ (Bld B b (l ++ s) w' ∧ Below B w w' ∧ Lib.OthersKept T8 (some b) w w') := by
 obtain ⟨i0, hi, hz0, hz1, hz2⟩ := info_parts (Try.Builder_Extra_169.infoByte)
 have hsz : (⟨s.toArray⟩ : ByteArray).size = s.length := by rw [Lib.size_eq]
 have hbl := Lib.byteCells_length l
 have H := hid (check_n h)
 go_enter Try.func51, Try.ntmps51
 go_wp2_with fail
 refine H.out.mono ?_
 rintro e w1 ⟨rfl, ⟨hB, v, hbk, hown, hne⟩, hb1, hk1⟩
 have c0 : w1.cell? ⟨b, 0, none⟩ = some (.pointer (some ⟨b, 0, none⟩)) := by rw [Lib.cell_of_heap hbk]; rfl
 have c1 : w1.cell? ⟨b, 1, none⟩ = some v := by rw [Lib.cell_of_heap hbk]; rfl
 go_wp2_with (at_builtin; refine Lib.wpList_append_own_stringF _ rfl _ _ 75 9 rfl B T8 i0 Try.underlying75 Try.underlying9 hi hz0 hz1 hz2 _ _ _ rfl hown ⟨s.toArray⟩ rfl ?c3 ?c4 ?c5 ?_)
 case c3 => rw [hsz, hbl]; unfold maxLen; omega
 case c4 => rw [hsz, hbl]; omega
 case c5 => have := hb1.size; omega
 intro v' w2 hown' hgrow _
 have hlt : b < w1.heap.size := (Array.getElem?_eq_some_iff.1 hbk).1
 have hb2 : w2.heap[b]? = some (.cells #[.pointer (some ⟨b, 0, none⟩), v] TB (0, 0)) := by
  rw [hgrow.block b hlt (fun e => hne e.symm)]; exact hbk
 have d0 : w2.cell? ⟨b, 0, none⟩ = some (.pointer (some ⟨b, 0, none⟩)) := by rw [Lib.cell_of_heap hb2]; rfl
 have d1 : w2.cell? ⟨b, 1, none⟩ = some v := by rw [Lib.cell_of_heap hb2]; rfl
 have f1 : w2.frozen? ⟨b, 1, none⟩ = false := Lib.frozen_of_heap hb2 1
 obtain ⟨ao, n', cap, rfl⟩ : ∃ ao n' cap, v' = .slice ao n' cap := by
  rcases hown'.2 with ⟨hv, _⟩ | ⟨g, cap, cur, fz, hv, _⟩
  ·exact ⟨_, _, _, hv⟩
  ·exact ⟨_, _, _, hv⟩
 have HO := hid hown'
 have HG := hid hgrow
 clear hown' hgrow
 go_wp2
 go_ret2
 refine ⟨rfl, ?_, ?_, (hk1.grown HG.out (Lib.ownsRowF_kind hown)).setCell ⟨b, 1, none⟩ rfl _⟩
 ·have h5 := HO.out
  have e : Lib.byteCells (l ++ s) = Lib.byteCells l ++ Lib.strCells ⟨s.toArray⟩ := by rw [Lib.byteCells_append, Lib.strCells_eq]
  have e2 : (Lib.byteCells (l ++ s)).length = (Lib.byteCells l).length + (⟨s.toArray⟩ : ByteArray).size := by rw [Lib.byteCells_length, Lib.byteCells_length, hsz, List.length_append]
  refine .inr (Lib.BuilderAtF.put (T := TB) (e := T8) hB hb2 (bs' := Lib.byteCells (l ++ s)) ?_ (by decide))
  rw [e2, hbl, hsz, e]; exact h5
 ·exact (hb1.grown HG.out (by have := hb1.size; omega) (fun k hk => (hown.lt k hk).1)).setCell (p := ⟨b, 1, none⟩) hB _

namespace M
theorem print_len : ∀ (ts : List Tok) (k : Nat), (print (ts.take k)).length ≤ (print ts).length
 | ts, k => by
  rcases Nat.lt_or_ge k ts.length with h | h
  ·have e : ts = ts.take k ++ ts.drop k := (List.take_append_drop k ts).symm
   have key : ∀ (a b : List Tok), (print a).length ≤ (print (a ++ b)).length := by
    intro a b
    cases a with
    | nil => exact Nat.zero_le _
    | cons x r => simp [print]
   conv => rhs; rw [e]
   exact key _ _
  ·rw [List.take_of_length_le h]; exact Nat.le_refl _
theorem word_len {ts : List Tok} {k : Nat} {t : Tok} (h : ts[k]? = some t) : (word t).length ≤ (print ts).length := by
 refine Nat.le_trans ?_ (print_len ts (k + 1))
 rw [print_take h]
 split
 ·exact Nat.le_refl _
 ·rw [List.length_append, List.length_cons]; omega
end M
/-- The box of a word that lies beside a builder. -/
theorem box_by {b g : Nat} {w w' : World} {x y : Value} (hbox : w.heap[g]? = some (.cells #[x, y] 33 (0, 0))) (hne : g ≠ b) (hk : Lib.OthersKept T8 (some b) w w') : w'.heap[g]? = some (.cells #[x, y] 33 (0, 0)) :=
 hk _ _ hbox (by simpa using hne) (by intro c fz e; injection e with e1 e2; exact absurd e2 (by decide))
theorem box_cells {g : Nat} {w : World} {x y : Value} {T : TypeId} (h : w.heap[g]? = some (.cells #[x, y] T (0, 0))) : w.cell? ⟨g, 0, none⟩ = some x ∧ w.cell? ⟨g, 1, none⟩ = some y := by
 refine ⟨?_, ?_⟩
 ·rw [cell_of_row w _ 0 _ T (0, 0) h]; rfl
 ·rw [cell_of_row w _ 1 _ T (0, 0) h]; rfl
def PrintAt (W wr : World) (ts : List M.Tok) (k : Nat) : Prop := Bld W.heap.size W.heap.size (M.print (ts.take k)) wr ∧ Ext W wr
set_option maxHeartbeats 4000000 in
set_option maxRecDepth 100000 in
theorem print_n {w : World} {v : Value} {ts : List M.Tok} (h : TList w v ts) (hlen : (M.print ts).length ≤ 1000000000) (htx : ∀ t ∈ ts, t.2.length ≤ 1000000000) : Calls Try.prog 46 #[v] w (GivesT w (M.print ts)) := by
 obtain ⟨A, n, c, rfl, hn, hnc, hcm, hA⟩ := h
 have HT := hid (show TList w (.slice A n c) ts from ⟨A, n, c, rfl, hn, hnc, hcm, hA⟩)
 have HN := hid hn
 have HX := hid htx
 have hc9 : c ≤ 9223372036854775807 := by unfold maxLen at hcm; omega
 clear hn hA htx
 go_enter Try.func46, Try.ntmps46
 go_wp2
 go_loopw [8] (fun i wr => ∃ (k : Nat), i = .int .i64 (k : Int) ∧ k ≤ n ∧ Hid (PrintAt w wr ts k)) (fun i _ => n - (intOf i).toNat)
 case atStart => exact ⟨0, rfl, Nat.zero_le _, Bld.new w, Ext.alloc _ _⟩
 case round =>
  obtain ⟨k, rfl, hk, hR⟩ := hrel
  rcases Nat.lt_or_ge k n with hlt | hge
  ·obtain ⟨ad, t, rfl, ht, c0, c1⟩ := TList.get (HT.out.up hR.out.2) (k := k) (by rw [← HN.out]; exact hlt)
   have hlt' : (k : Int) < (n : Int) := by omega
   have HK := hid ht
   have hw := M.word_len ht
   have hp := M.print_len ts k
   have hB := hid (show w.heap.size ≤ wr.heap.size from hR.out.2.size)
   have HP := hid (show ∀ w, Calls Try.prog 52 #[.agg #[.int .i64 t.1, str t.2]] w (GivesT w (M.word t)) from fun w => printed_n t (by have := HX.out t (List.mem_of_getElem? HK.out); omega) w)
   have hsz := hR.out.2.size
   clear ht
   have hsp := M.print_take HK.out
   rcases Nat.eq_zero_or_pos k with h0 | h0
   ·have hqa : decide (0 < (k : Int)) = false := by simp; omega
    have hqb : decide (0 < k) = false := by simp; omega
    have HS := hid (show M.print (ts.take (k + 1)) = M.print (ts.take k) ++ M.word t by rw [hsp, if_pos h0, h0]; rfl)
    clear hsp h0
    go_wp2_with fail
    refine (HP.out _).mono ?_
    rintro e w2 ⟨rfl, hb⟩
    have E2 := hid hb
    clear hb
    go_wp2_with fail
    refine (writeS_n ((hR.out.1.alloc _).up E2.out) (M.word t) (by omega) (by have := E2.out.size; simp at this; omega)).mono ?_
    rintro e w3 ⟨rfl, hbl, hbe, -⟩
    have HB := hid hbl
    have HE := hid (show Ext w w3 from Below.trans (B := w.heap.size) ((hR.out.2.alloc' _).trans E2.out) hbe)
    clear hbl hbe
    go_wp2
    go_roundw
    case rel => exact ⟨k + 1, by simp, by omega, by rw [HS.out]; exact HB.out, HE.out⟩
    case measure => simp [intOf]; omega
   ·have hqa : (0 < (k : Int)) := by omega
    have HS := hid (show M.print (ts.take (k + 1)) = M.print (ts.take k) ++ 32 :: M.word t by rw [hsp, if_neg (by omega)])
    clear hsp
    go_wp2_with fail
    refine (writeS_n (hR.out.1.alloc _) [32] (by simp; omega) (Nat.le_trans hB.out (by simp))).mono ?_
    rintro e w1 ⟨rfl, hbl1, hbe1, hk1⟩
    obtain ⟨d0, d1⟩ := box_cells (box_by (heap_alloc_new wr _) (by have := hR.out.1.lt; omega) hk1)
    have HB1 := hid hbl1
    have HE1 := hid (show Ext w w1 from Below.trans (B := w.heap.size) (hR.out.2.alloc' _) hbe1)
    clear hbl1 hbe1 hk1
    go_wp2_with fail
    refine (HP.out _).mono ?_
    rintro e w2 ⟨rfl, hb⟩
    have E2 := hid hb
    clear hb
    go_wp2_with fail
    refine (writeS_n (HB1.out.up E2.out) (M.word t) (by simp; omega) (by have := E2.out.size; have := HE1.out.size; omega)).mono ?_
    rintro e w3 ⟨rfl, hbl, hbe, -⟩
    have HB := hid hbl
    have HE := hid (show Ext w w3 from Below.trans (B := w.heap.size) (HE1.out.trans E2.out) hbe)
    clear hbl hbe
    go_wp2
    go_roundw
    case rel => exact ⟨k + 1, by simp, by omega, by rw [HS.out, show M.print (ts.take k) ++ 32 :: M.word t = M.print (ts.take k) ++ [32] ++ M.word t by simp]; exact HB.out, HE.out⟩
    case measure => simp [intOf]; omega
  ·obtain rfl : k = n := by omega
   have HE := hid (show M.print (ts.take k) = M.print ts by rw [HN.out, List.take_length])
   go_wp2_with fail
   refine (Try.Builder_String_any_k w.heap.size w.heap.size (M.print (ts.take k)) _ hR.out.1 hR.out.2.size).mono ?_
   rintro e w2 ⟨rfl, -, hb, -⟩
   have E := hid (Below.trans (B := w.heap.size) hR.out.2 hb)
   clear hb
   rw [HE.out]
   go_wp2
   go_ret
   exact ⟨rfl, E.out⟩
end Go.Proofs.Ytceplnfjlncekaa
