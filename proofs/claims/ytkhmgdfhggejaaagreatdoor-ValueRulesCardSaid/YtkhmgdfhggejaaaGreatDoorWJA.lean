/-
  Words for rows of limbs in memory: 'Num w C v l': the slice value v reads as the row l of 32-bit numbers, in a block below C.
-/
import Derived.Test.YtkhmgdfhggejaaaGreatDoorRows
import Derived.Test.YtkhmgdfhggejaaaGreatDoorWJM
import Derived.WalkKit
import Derived.Handy
import Derived.Laws.OwnMore
import Derived.Deep.Draws
import Derived.Deep.QuietTactic
import Derived.BigQuiet
import Derived.Outline
namespace Go.Proofs.YtkhmgdfhggejaaaGreatDoor
set_option linter.unusedSimpArgs false
set_option linter.unusedVariables false
open Go.RowKit
theorem hid {p : Prop} (h : p) : Hid p := h
theorem ret_bool {a b : Bool} (h : a = b) : Ending.returned (.bool a) = Ending.returned (.bool b) := by rw [h]
theorem ret_int {k : IntKind} {a b : Int} (h : a = b) : Ending.returned (.int k a) = Ending.returned (.int k b) := by rw [h]
theorem addr_block (a : Addr) (n : Nat) : (a.add n).block = a.block := by unfold Addr.add; split <;> rfl
def Cells (w : World) (ad : Addr) (l : List Nat) : Prop := ∀ (i x : Nat), l[i]? = some x → w.cell? (ad.add i) = some (.int .u32 (x : Int))
def Row (w : World) (C : Nat) (A : Option Addr) (l : List Nat) : Prop := l ≠ [] → ∃ ad, A = some ad ∧ ad.block < C ∧ Cells w ad l
def Num (w : World) (C : Nat) (v : Value) (l : List Nat) : Prop :=
 ∃ A n c, v = .slice A n c ∧ n = l.length ∧ n ≤ c ∧ c ≤ maxLen ∧ (∀ x ∈ l, x < 4294967296) ∧ Row w C A l
theorem Row.at_ {w : World} {C : Nat} {A : Option Addr} {l : List Nat} (h : Row w C A l) {k : Nat} (hk : k < l.length) :
 ∃ ad, A = some ad ∧ ad.block < C ∧ Cells w ad l := h (by intro e; subst e; simp at hk)
theorem Cells.get {w : World} {ad : Addr} {l : List Nat} (h : Cells w ad l) {k : Nat} (hk : k < l.length) : w.cell? (ad.add k) = some (.int .u32 (l[k] : Int)) :=
 h k _ (List.getElem?_eq_getElem hk)
theorem Row.get {w : World} {C : Nat} {A : Option Addr} {l : List Nat} (h : Row w C A l) {k : Nat} (hk : k < l.length) :
 ∃ ad x, A = some ad ∧ ad.block < C ∧ Hid (l[k]? = some x) ∧ w.cell? (ad.add k) = some (.int .u32 (x : Int)) := by
 obtain ⟨ad, e, hC, hc⟩ := h.at_ hk
 exact ⟨ad, l[k], e, hC, List.getElem?_eq_getElem hk, hc.get hk⟩
theorem Cells.keep {w w' : World} {ad : Addr} {l : List Nat} {C : Nat} (h : Cells w ad l) (hC : ad.block < C) (hb : Below C w w') : Cells w' ad l := by
 intro i x hx
 rw [hb.cell (by rw [addr_block]; exact hC)]; exact h i x hx
theorem Row.keep {w w' : World} {C D : Nat} {A : Option Addr} {l : List Nat} (h : Row w C A l) (hb : Below C w w') (hD : C ≤ D) : Row w' D A l := by
 intro hn
 obtain ⟨ad, e, hlt, hc⟩ := h hn
 exact ⟨ad, e, by omega, hc.keep hlt hb⟩
theorem Num.keep {w w' : World} {C D : Nat} {v : Value} {l : List Nat} (h : Num w C v l) (hb : Below C w w') (hD : C ≤ D) : Num w' D v l := by
 obtain ⟨A, n, c, rfl, hn, hc, hm, hs, hr⟩ := h
 exact ⟨A, n, c, rfl, hn, hc, hm, hs, hr.keep hb hD⟩
theorem Num.slice {w : World} {C : Nat} {v : Value} {l : List Nat} (h : Num w C v l) : ∃ A n c, v = .slice A n c := by
 obtain ⟨A, n, c, e, _⟩ := h
 exact ⟨A, n, c, e⟩
theorem Num.more {w : World} {C D : Nat} {v : Value} {l : List Nat} (h : Num w C v l) (hD : C ≤ D) : Num w D v l := h.keep (Below.refl _ _) hD
theorem Num.nil (w : World) (C : Nat) : Num w C (.slice none 0 0) [] := ⟨none, 0, 0, rfl, rfl, Nat.le_refl _, Nat.zero_le _, by simp, fun h => absurd rfl h⟩
theorem Row.take {w : World} {C : Nat} {A : Option Addr} {l : List Nat} (h : Row w C A l) (k : Nat) : Row w C A (l.take k) := by
 intro hn
 obtain ⟨ad, e, hlt, hc⟩ := h (by rintro rfl; simp at hn)
 refine ⟨ad, e, hlt, fun i x hx => hc i x ?_⟩
 rw [List.getElem?_take] at hx
 split at hx
 ·exact hx
 ·cases hx
theorem below_drewN {B : Nat} {a w : World} (h : Below B a w) (n : Nat) : Below B a (w.drewN n) := ⟨h.os, h.tape, h.output, h.size, h.block⟩
def Own (base : Nat) (w : World) (v : Value) (l : List Nat) : Prop := w.ownsRow base 97 1 v l.length (l.map fun x : Nat => Value.int .u32 (x : Int)) ∧ ∀ x ∈ l, x < 4294967296
theorem info_u32 : (Tryz.prog.info? 97).map (fun i => (i.zero, i.size, i.bytes)) = some (some (.int .u32 0), 1, 4) := by kernel_rfl
theorem Own.num {base : Nat} {w : World} {v : Value} {l : List Nat} (h : Own base w v l) : Num w w.heap.size v l := by
 obtain ⟨h, hs⟩ := h
 have hh := h
 obtain ⟨hl, h2⟩ := h
 rcases h2 with ⟨rfl, h0⟩ | ⟨g, cap, cur, rfl, hb, hg, hc, hm, _, _⟩
 ·have : l = [] := List.eq_nil_of_length_eq_zero h0
  subst this; exact Num.nil _ _
 ·refine ⟨_, _, _, rfl, rfl, hc, hm, hs, fun hn => ⟨_, rfl, (Array.getElem?_eq_some_iff.1 hg).1, fun i x hx => ?_⟩⟩
  exact hh.cells (g := g) rfl i _ (by rw [List.getElem?_map, hx]; rfl)
theorem Own.made (w : World) (cur : Array Value) (cap : Nat) (base : Nat) (hb : base ≤ w.heap.size) (hm : cap ≤ maxLen) (hs : cur.size = cap) : Own base (w.alloc (.cells cur 97)) (.slice (some ⟨w.heap.size, 0, none⟩) 0 cap) [] :=
 ⟨World.ownsRow_made w cur cap hb hm (by rw [hs, Nat.mul_one]), by simp⟩
theorem Own.nil (w : World) (base : Nat) : Own base w (.slice none 0 0) [] := ⟨World.ownsRow_nil w base _ 1, by simp⟩
theorem Own.alloc {base : Nat} {w : World} {v : Value} {l : List Nat} (h : Own base w v l) (o : Obj) : Own base (w.alloc o) v l := ⟨h.1.alloc o, h.2⟩
theorem Own.grow {base : Nat} {w w' : World} {v : Value} {l : List Nat} (h : Own base w v l) (hb : Below w.heap.size w w') : Own base w' v l :=
 ⟨h.1.kept (row := none) ⟨hb.os, hb.tape, hb.output, hb.size, fun k hk _ => hb.block k hk⟩ (by cases v.ownBlock <;> simp), h.2⟩
theorem Own.below {base : Nat} {w w' : World} {v : Value} {l : List Nat} (h : Own base w v l) (hg : w.grownBy w' v.ownBlock) {B : Nat} (hB : B ≤ base) (hb : base ≤ w.heap.size) : Below B w w' :=
 (Below.refl _ _).grown hg (by omega) fun k hk => by have := (h.1.lt k hk).1; omega
def zeros (c : Nat) : Array Value := (List.replicate c (Value.int .u32 0)).toArray
theorem zeros_size (c : Nat) : (zeros c).size = c := by simp [zeros]
theorem made_zeros (c : Nat) : madeCells (Value.int .u32 0).cells (c * 1) = zeros c := by
 apply Array.ext'
 rw [zeros, Nat.mul_one]
 apply List.ext_getElem?
 intro i
 simp [madeCells, Value.cells, List.getElem?_replicate, Nat.mod_one]
 by_cases h : i < c <;> simp [h]
theorem make_u32 (kl kc : IntKind) (l c : Int) (a b : Nat) (hl : l = (a : Int)) (hc : c = (b : Int)) (hlc : a ≤ b) (hb : b ≤ 1000000000) (w : World) :
 (Instr.makeSlice 22 (.int kl l) (.int kc c)).run Tryz.prog w = .ok (.slice (some ⟨w.heap.size, 0, none⟩) a b) (w.alloc (.cells (zeros b) 97)) := by
 obtain ⟨i0, hi, hz0, hz1, hz2⟩ := info_parts info_u32
 subst hl hc
 have := run_make (P := Tryz.prog) w 22 97 i0 (.int .u32 0) Tryz.underlying22 hi hz0 kl kc (a : Int) (b : Int) (by omega) (by omega) (by rw [hz2]; omega) (by omega)
 rw [this, hz1, Int.toNat_natCast, Int.toNat_natCast, made_zeros]
theorem wpList_app1 {w : World} {ops : Array Oper} {rest : List Oper} {o : Oper} {a : Act} {Q : Exit → Act → World → Prop} (hgd : o.guard = none) (s x : Operand)
 (ho : o.op = .call { callee := .builtin .append, args := #[s, x], argTypes := #[22, 22] })
 (base : Nat) (v : Value) (l : List Nat) (hs : a.eval s = v) (hown : Own base w v l) (g : Nat) (y : Nat) (hx : a.eval x = .slice (some ⟨g, 0, none⟩) 1 1)
 (hc : w.cell? ⟨g, 0, none⟩ = some (.int .u32 (y : Int))) (hy : y < 4294967296) (hlen : l.length + 1 ≤ 1000000000) (hbase : base ≤ w.heap.size)
 (h : ∀ v' w', Own base w' v' (l ++ [y]) → w.grownBy w' v.ownBlock → wpList Tryz.prog ops Q rest (a.put o.dst v') w') : wpList Tryz.prog ops Q (o :: rest) a w := by
 obtain ⟨i0, hi, hz0, hz1, hz2⟩ := info_parts info_u32
 refine wpList_append_own w hgd s x 22 ho base 97 i0 (.int .u32 0) 1 4 Tryz.underlying22 hi hz0 hz1 hz2 rfl (by decide) v l.length _ hs hown.1 ⟨g, 0, none⟩ 1 1 [.int .u32 (y : Int)] hx rfl ?_ ?_ (by unfold maxLen; omega) (by omega) hbase ?_
 ·intro j u hj
  rcases j with _ | j
  ·simp at hj; subst hj; rw [Addr.add_lit]; exact hc
  ·simp at hj
 ·intro u hu; simp at hu; subst hu; rfl
 ·intro v' w' h1 h2 _
  refine h v' w' ⟨?_, ?_⟩ h2
  ·simpa using h1
  ·intro t ht
   rw [List.mem_append] at ht
   rcases ht with ht | ht
   ·exact hown.2 t ht
   ·simp at ht; subst ht; exact hy
def Blk (w : World) (g : Nat) (l : List Nat) : Prop := w.heap[g]? = some (.cells (l.map fun x : Nat => Value.int .u32 (x : Int)).toArray 97 (0, 0))
theorem Blk.made (w : World) (n : Nat) : Blk (w.alloc (.cells (zeros n) 97)) w.heap.size (List.replicate n 0) := by
 unfold Blk
 rw [heap_alloc_new w _]
 simp [zeros]
theorem Blk.lt {w : World} {g : Nat} {l : List Nat} (h : Blk w g l) : g < w.heap.size := (Array.getElem?_eq_some_iff.1 h).1
theorem Blk.cell {w : World} {g : Nat} {l : List Nat} (h : Blk w g l) {i x : Nat} (hx : l[i]? = some x) : w.cell? ⟨g, i, none⟩ = some (.int .u32 (x : Int)) := by
 rw [cell_of_row w g i _ 97 (0, 0) h]
 simp [hx]
theorem Blk.frozen {w : World} {g : Nat} {l : List Nat} (h : Blk w g l) (i : Nat) : w.frozen? ⟨g, i, none⟩ = false := by
 unfold Blk at h
 simp [World.frozen?, h]
theorem Blk.set_ {w : World} {g : Nat} {l : List Nat} (h : Blk w g l) (i x : Nat) : Blk (w.setCell ⟨g, i, none⟩ (.int .u32 (x : Int))) g (l.set i x) := by
 unfold Blk at h ⊢
 simp [World.setCell, Array.getElem?_modify, h, List.map_set]
theorem Blk.put {w : World} {g : Nat} {l : List Nat} (h : Blk w g l) (i : Nat) {x : Nat} {z : Int} (hz : z = (x : Int)) : Blk (w.setCell ⟨g, i, none⟩ (.int .u32 z)) g (l.set i x) := by
 subst hz; exact h.set_ i x
theorem Blk.grow {w w' : World} {g : Nat} {l : List Nat} (h : Blk w g l) (hb : Below w.heap.size w w') : Blk w' g l := (hb.block g h.lt).trans h
theorem Blk.far {w : World} {g : Nat} {l : List Nat} (h : Blk w g l) {p : Addr} (hp : g ≠ p.block) (u : Value) : Blk (w.setCell p u) g l := (Below.heap_setCell w p u g hp).trans h
theorem Blk.num {w : World} {g : Nat} {l : List Nat} (h : Blk w g l) (hs : ∀ x ∈ l, x < 4294967296) (hm : l.length ≤ maxLen) {n : Nat} (hn : n = l.length) : Num w w.heap.size (.slice (some ⟨g, 0, none⟩) n n) l :=
 ⟨_, n, n, rfl, hn, Nat.le_refl _, by omega, hs, fun _ => ⟨_, rfl, h.lt, fun i x hx => by rw [Addr.add_lit, Nat.zero_add]; exact h.cell hx⟩⟩
theorem Blk.num_take {w : World} {g : Nat} {l : List Nat} (h : Blk w g l) (hs : ∀ x ∈ l, x < 4294967296) (hm : l.length ≤ maxLen) {n : Nat} (hn : n = l.length) {j : Nat} (hj : j ≤ n) : Num w w.heap.size (.slice (some ⟨g, 0, none⟩) j n) (l.take j) :=
 ⟨_, j, n, rfl, by rw [List.length_take]; omega, hj, by omega, fun x hx => hs x (List.mem_of_mem_take hx), fun hne => ⟨_, rfl, h.lt, fun i x hx => by
  rw [List.getElem?_take] at hx
  split at hx
  ·rw [Addr.add_lit, Nat.zero_add]; exact h.cell hx
  ·cases hx⟩⟩
def Gives (w : World) (l : List Nat) (e : Ending) (w' : World) : Prop := ∃ v, e = .returned v ∧ Num w' w'.heap.size v l ∧ Below w.heap.size w w'
theorem dec_lt {a b : Int} (h : a < b) : decide (b ≤ a) = false := by simpa using h
theorem is_any (w : World) (v : Value) (l : List Nat) {C : Nat} (hv : Num w C v l) :
 Calls Tryz.prog 128 #[v] w fun e w' => e = .returned (.bool (M.isNat l)) ∧ w = w' := by
 obtain ⟨A, n, c, rfl, hn, hc, hm, hs, hr⟩ := hv
 have hb : n ≤ 9223372036854775807 := by unfold maxLen at hm; omega
 have HR := hid hr
 have HN := hid hn
 have HS := hid hs
 clear hr hn hs hm hc
 go_enter Tryz.func128, Tryz.ntmps128
 go_wp2
 go_loop [7] (fun i => ∃ k : Nat, k ≤ n ∧ i = .int .i64 k ∧ M.small (l.take k) = true) (fun i => n - (intOf i).toNat)
 case atStart => exact ⟨0, Nat.zero_le _, rfl, rfl⟩
 case round =>
  obtain ⟨k, hk, rfl, hsm⟩ := hrel
  have HSM := hid hsm
  clear hsm
  by_cases hlt : k < n
  ·obtain ⟨ad, x, rfl, _, HX, hcell⟩ := HR.out.get (k := k) (by rw [← HN.out]; exact hlt)
   by_cases hx : (x : Int) < 1000000000
   ·have hx1 := dec_lt hx
    have HX2 := hid hx
    clear hx
    go_wp2
    go_round
    case rel => exact ⟨k + 1, by omega, by go_num, M.small_snoc HX.out HSM.out (by have := HX2.out; omega)⟩
    case measure => simp [intOf]; all_goals omega
   ·have hx1 : (1000000000 : Int) ≤ x := by omega
    go_wp2
    go_ret
    exact ⟨ret_bool (M.isNat_big HX.out (by omega)).symm, rfl⟩
  ·by_cases h0 : n = 0
   ·subst h0
    go_wp2
    go_ret
    have : l = [] := List.eq_nil_of_length_eq_zero HN.out.symm
    exact ⟨by subst this; rfl, rfl⟩
   ·obtain ⟨ad, x, rfl, _, HX, hcell⟩ := HR.out.get (k := n - 1) (by rw [← HN.out]; omega)
    have h1 : 1 ≤ n := by omega
    go_wp2
    go_ret
    have e : M.isNat l = decide (x ≠ 0) := M.isNat_end (by have := HSM.out; rwa [List.take_of_length_le (by rw [← HN.out]; omega)] at this) (by rw [← HN.out]; exact HX.out)
    refine ⟨?_, rfl⟩
    rw [e]
    have : ¬ (n : Int) = 0 := by omega
    congr 2
    by_cases hx : x = 0 <;> simp [hx, this]
    all_goals omega
theorem natural_any (w : World) (v : Value) (l : List Nat) {C : Nat} (hv : Num w C v l) :
 Calls Tryz.prog 159 #[v] w fun e w' => (∃ v', e = .returned v' ∧ Num w C v' (M.nat l)) ∧ w = w' := by
 have HV := hid hv
 have HI := is_any w v l hv
 have HI2 := hid HI
 clear HI hv
 by_cases h : M.isNat l = true
 ·have H := hid h
  go_enter Tryz.func159, Tryz.ntmps159
  go_wp2_with fail
  refine HI2.out.mono ?_
  rintro e w' ⟨rfl, rfl⟩
  go_wp2
  go_ret
  exact ⟨⟨_, rfl, by rw [M.nat, if_pos H.out]; exact HV.out⟩, rfl⟩
 ·have h' : M.isNat l = false := by simpa using h
  have H := hid h'
  clear h
  go_enter Tryz.func159, Tryz.ntmps159
  go_wp2_with fail
  refine HI2.out.mono ?_
  rintro e w' ⟨rfl, rfl⟩
  go_wp2
  go_ret
  exact ⟨⟨_, rfl, by rw [M.nat, if_neg (by rw [H.out]; simp)]; exact Num.nil _ _⟩, rfl⟩
theorem limbs_len3 {n : Nat} (h : n ≤ 18446744073709551615) : (M.limbs n).length ≤ 3 := M.limbs_length_le (by omega)
theorem of_any (n : Nat) (hn : (n : Int) ≤ 18446744073709551615) (w : World) :
 Calls Tryz.prog 109 #[.int .u64 (n : Int)] w (Gives w (M.limbs n)) := by
 have HL := hid (limbs_len3 (n := n) (by omega))
 have hmk : ∀ W : World, (Instr.makeSlice 22 (.int .i64 0) (.int .i64 3)).run Tryz.prog W = .ok (.slice (some ⟨W.heap.size, 0, none⟩) 0 3) (W.alloc (.cells (zeros 3) 97)) :=
  make_u32 _ _ 0 3 0 3 rfl rfl (by omega) (by omega)
 go_enter Tryz.func109, Tryz.ntmps109
 go_wp2
 go_loopw [0, 3] (fun s0 v wr => ∃ (q : Nat) (l : List Nat), s0 = .int .u64 (q : Int) ∧ (q : Int) ≤ 18446744073709551615 ∧ M.limbs n = l ++ M.limbs q ∧ Own w.heap.size wr v l ∧ Below w.heap.size w wr) (fun s0 _ _ => (intOf s0).toNat)
 case atStart => exact ⟨n, [], rfl, hn, rfl, Own.made w _ 3 _ (Nat.le_refl _) (by decide) (zeros_size 3), (Below.refl _ _).alloc (Nat.le_refl _) _⟩
 case round =>
  obtain ⟨q, l, rfl, hq, he, hown, hbel⟩ := hrel
  have HE := hid he
  clear he
  have HO := hid hown
  have HB := hid hbel
  clear hown hbel
  by_cases h0 : 0 < q
  ·go_wp2_with (at_builtin; go_loud (refine wpList_app1 rfl (.tmp 9) (.tmp 13) rfl w.heap.size _ l rfl (HO.out.alloc _) wr.heap.size (q % 1000000000) rfl ?c1 ?c3 ?c4 ?c5 ?_))
   case c1 => simp [go_sem]
   case c3 => omega
   case c4 =>
    have h1 := HL.out
    rw [HE.out, List.length_append, M.limbs_pos (by omega), List.length_cons] at h1
    omega
   case c5 => have := HB.out.size; simp; omega
   intro v' w1 hown' hgrow
   have HO' := hid hown'
   have HG := hid hgrow
   clear hown' hgrow
   go_wp2
   go_roundw
   case rel =>
    refine ⟨q / 1000000000, l ++ [q % 1000000000], by go_num, by omega, ?_, HO'.out, ?_⟩
    ·rw [HE.out, M.limbs_pos (by omega)]; simp
    ·have hz := HB.out.size
     exact (HB.out.alloc (by omega) _).trans ((HO.out.alloc _).below HG.out (Nat.le_refl _) (by simp; omega))
   case measure => simp [intOf]; all_goals omega
  ·have : q = 0 := by omega
   subst this
   go_wp2
   go_ret
   refine ⟨_, rfl, ?_, HB.out⟩
   have := HO.out.num
   rw [HE.out, M.limbs_zero, List.append_nil]
   exact this
theorem natOf_any (n : Nat) (hn : (n : Int) ≤ 18446744073709551615) (w : World) :
 Calls Tryz.prog 46 #[.int .u64 (n : Int)] w (Gives w (M.limbs n)) := by
 have HL := hid (limbs_len3 (n := n) (by omega))
 go_enter Tryz.func46, Tryz.ntmps46
 go_wp2
 go_loopw [0, 3] (fun s0 v wr => ∃ (q : Nat) (l : List Nat), s0 = .int .u64 (q : Int) ∧ (q : Int) ≤ 18446744073709551615 ∧ M.limbs n = l ++ M.limbs q ∧ Own w.heap.size wr v l ∧ Below w.heap.size w wr) (fun s0 _ _ => (intOf s0).toNat)
 case atStart => exact ⟨n, [], rfl, hn, rfl, Own.nil _ _, Below.refl _ _⟩
 case round =>
  obtain ⟨q, l, rfl, hq, he, hown, hbel⟩ := hrel
  have HE := hid he
  clear he
  have HO := hid hown
  have HB := hid hbel
  clear hown hbel
  by_cases h0 : 0 < q
  ·go_wp2_with (at_builtin; refine wpList_app1 rfl (.tmp 6) (.tmp 10) rfl w.heap.size _ l rfl (HO.out.alloc _) wr.heap.size (q % 1000000000) rfl ?c1 ?c3 ?c4 ?c5 ?_)
   case c1 => simp [go_sem]
   case c3 => omega
   case c4 =>
    have h1 := HL.out
    rw [HE.out, List.length_append, M.limbs_pos (by omega), List.length_cons] at h1
    omega
   case c5 => have := HB.out.size; simp; omega
   intro v' w' hown' hgrow
   have HO' := hid hown'
   have HG := hid hgrow
   clear hown' hgrow
   go_wp2
   go_roundw
   case rel =>
    refine ⟨q / 1000000000, l ++ [q % 1000000000], by go_num, by omega, ?_, HO'.out, ?_⟩
    ·rw [HE.out, M.limbs_pos (by omega)]; simp
    ·have hz := HB.out.size
     exact (HB.out.alloc (by omega) _).trans ((HO.out.alloc _).below HG.out (Nat.le_refl _) (by simp; omega))
   case measure => simp [intOf]; all_goals omega
  ·have : q = 0 := by omega
   subst this
   go_wp2
   go_ret
   refine ⟨_, rfl, ?_, HB.out⟩
   have := HO.out.num
   rw [HE.out, M.limbs_zero, List.append_nil]
   exact this
theorem trim_post {w : World} {C : Nat} {A : Option Addr} {k c : Nat} {L : List Nat} (H : Num w C (.slice A k c) L) :
 Ending.returned (.slice A k c) = .returned (.slice A L.length c) ∧ Num w C (.slice A L.length c) L := by
 have h := H
 obtain ⟨A2, n2, c2, e, hn, _⟩ := h
 injection e with e1 e2 e3
 rw [← hn, ← e2]
 exact ⟨rfl, H⟩
theorem trimmed_eq (w : World) (A : Option Addr) (n c : Nat) (l : List Nat) {C : Nat} (hv : Num w C (.slice A n c) l) (hsm : Hid (M.small l = true)) :
 Calls Tryz.prog 188 #[.slice A n c] w fun e w' => (e = .returned (.slice A (M.limbs (M.val l)).length c) ∧ Num w C (.slice A (M.limbs (M.val l)).length c) (M.limbs (M.val l))) ∧ w = w' := by
 obtain ⟨A2, n2, c2, he, hn, hc, hm, hs, hr⟩ := hv
 injection he with he1 he2 he3
 subst he1 he2 he3
 have hb : n ≤ 9223372036854775807 := by unfold maxLen at hm; omega
 have HR := hid hr
 have HN := hid hn
 have HS := hid hs
 have HM := hid hm
 clear hr hn hs hm
 go_enter Tryz.func188, Tryz.ntmps188
 go_wp2
 go_loop [0] (fun s => ∃ k : Nat, k ≤ n ∧ s = .slice A k c ∧ M.val (l.take k) = M.val l) (fun s => match s with | .slice _ k _ => k | _ => 0)
 case atStart => exact ⟨n, Nat.le_refl _, rfl, by rw [HN.out, List.take_length]⟩
 case round =>
  obtain ⟨k, hk, rfl, hval⟩ := hrel
  have HV := hid hval
  clear hval
  have hend : (∀ h : k - 1 < l.length, 0 < k → l[k - 1] ≠ 0) → Hid (Num w C (.slice A k c) (M.limbs (M.val l))) := fun hz => by
   have hkl : k ≤ l.length := by rw [← HN.out]; exact hk
   have e := M.take_done hsm.out hkl HV.out hz
   rw [← e]
   exact ⟨A, k, c, rfl, by rw [List.length_take]; omega, by omega, HM.out, fun x hx => HS.out x (List.mem_of_mem_take hx), HR.out.take k⟩
  by_cases h0 : k = 0
  ·subst h0
   have H := hend (fun _ h => absurd h (by omega))
   clear hend
   go_wp2
   go_ret
   exact ⟨trim_post H.out, rfl⟩
  ·have h1 : 1 ≤ k := by omega
   obtain ⟨ad, x, rfl, _, HX, hcell⟩ := HR.out.get (k := k - 1) (by rw [← HN.out]; omega)
   by_cases hx : x = 0
   ·subst hx
    clear hend
    go_wp2
    go_round
    case rel =>
     refine ⟨k - 1, by omega, rfl, ?_⟩
     have hlt : k - 1 < l.length := by rw [← HN.out]; omega
     have := M.take_nought hlt (by have := HX.out; rw [List.getElem?_eq_getElem hlt] at this; injection this)
     rw [this, show k - 1 + 1 = k by omega]; exact HV.out
    case measure => simp; omega
   ·have hx' : ((x : Int) == 0) = false := by simpa using hx
    have H := hend (fun h _ => by have := HX.out; rw [List.getElem?_eq_getElem h] at this; injection this with this; rw [this]; exact hx)
    clear hend
    go_wp2
    go_ret
    exact ⟨trim_post H.out, rfl⟩
theorem trimmed_any (w : World) (v : Value) (l : List Nat) {C : Nat} (hv : Num w C v l) (hsm : Hid (M.small l = true)) :
 Calls Tryz.prog 188 #[v] w fun e w' => (∃ v', e = .returned v' ∧ Num w C v' (M.limbs (M.val l))) ∧ w = w' := by
 obtain ⟨A, n, c, rfl⟩ := hv.slice
 exact (trimmed_eq w A n c l hv hsm).mono fun _ _ ⟨⟨he, hn⟩, hw⟩ => ⟨⟨_, he, hn⟩, hw⟩
theorem same_any (w : World) (u v : Value) (l m : List Nat) {C D : Nat} (hu : Num w C u l) (hv : Num w D v m) :
 Calls Tryz.prog 40 #[u, v] w fun e w' => e = .returned (.bool (decide (l = m))) ∧ ∃ k, w' = w.drewN k := by
 obtain ⟨A, n, c, rfl, hn, hc, hm, hs, hr⟩ := hu
 obtain ⟨A', n', c', rfl, hn', hc', hm', hs', hr'⟩ := hv
 have hb : n ≤ 9223372036854775807 := by unfold maxLen at hm; omega
 have HR := hid hr
 have HR' := hid hr'
 have HN := hid hn
 have HN' := hid hn'
 clear hr hn hs hm hr' hn' hs' hm' hc hc'
 by_cases hnn : n = n'
 ·subst hnn
  go_enter Tryz.func40, Tryz.ntmps40
  go_wp2
  go_loopw [5] (fun i wr => ∃ k p : Nat, k ≤ n ∧ i = .int .i64 k ∧ wr = w.drewN p ∧ l.take k = m.take k) (fun i _ => n - (intOf i).toNat)
  case atStart => exact ⟨0, 0, Nat.zero_le _, rfl, rfl, rfl⟩
  case round =>
   obtain ⟨k, p, hk, rfl, rfl, he⟩ := hrel
   have HE := hid he
   clear he
   by_cases hlt : k < n
   ·obtain ⟨ad, x, rfl, _, HX, hcell⟩ := HR.out.get (k := k) (by rw [← HN.out]; exact hlt)
    obtain ⟨ad', x', rfl, _, HX', hcell'⟩ := HR'.out.get (k := k) (by rw [← HN'.out]; exact hlt)
    by_cases hx : x = x'
    ·subst hx
     go_wp2
     go_quiet (fail)
     go_wp2
     go_roundw
     case rel => exact ⟨k + 1, p + nq, by omega, by go_num, rfl, by rw [List.take_add_one, List.take_add_one, HE.out, HX.out, HX'.out]⟩
     case measure => simp [intOf]; all_goals omega
    ·have hx' := hid hx
     have hne : ((x : Int) != (x' : Int)) = true := by simpa using (by omega : ¬ (x : Int) = x')
     clear hx
     go_wp2
     go_quiet (fail)
     go_wp2
     go_ret
     refine ⟨ret_bool ?_, p + nq, World.drewN_drewN _ _ _⟩
     have : l ≠ m := by
      rintro rfl
      have := HX.out
      rw [HX'.out] at this
      injection this with this
      exact hx'.out this.symm
     simp [this]
   ·have hkn : k = n := by omega
    subst hkn
    go_wp2
    go_ret
    refine ⟨ret_bool ?_, p, rfl⟩
    have := HE.out
    rw [List.take_of_length_le (by rw [← HN.out]; omega), List.take_of_length_le (by rw [← HN'.out]; omega)] at this
    simp [this]
 ·go_enter Tryz.func40, Tryz.ntmps40
  go_wp2
  go_ret
  refine ⟨ret_bool ?_, 0, rfl⟩
  have : l ≠ m := by rintro rfl; exact hnn (HN.out.trans HN'.out.symm)
  simp [this]
theorem quiet_add_left {P : Program} {f : FuncId} {args : Array Value} {w : World} {a n : Nat} {v : Value}
 (h : Calls P f args (w.drewN (a + n)) fun e w' => e = .returned v ∧ w.drewN (a + n) = w') :
 Calls P f args (w.drewN (a + n)) fun e w'' => e = .returned v ∧ ∃ m, w'' = w.drewN (a + m) :=
 h.mono fun _ _ ⟨he, hm⟩ => ⟨he, n, hm.symm⟩
theorem drew3 (w : World) (p q r : Nat) : ∃ k, ((w.drewN p).drewN q).drewN r = w.drewN k := ⟨p + q + r, by rw [World.drewN_drewN, World.drewN_drewN, Nat.add_assoc]⟩
theorem isNaN_u32 (a : Int) (w : World) : Calls Tryz.prog 185 #[.int .u32 a] w fun e w' => e = .returned (.bool false) ∧ w = w' := by
 go_enter Tryz.func185, Tryz.ntmps185
 go_wp2
 go_ret
 exact ⟨ret_bool (by simp), rfl⟩
theorem isNaN_int (a : Int) (w : World) : Calls Tryz.prog 157 #[.int .i64 a] w fun e w' => e = .returned (.bool false) ∧ w = w' := by
 go_enter Tryz.func157, Tryz.ntmps157
 go_wp2
 go_ret
 exact ⟨ret_bool (by simp), rfl⟩
theorem cmp_u32 (a b : Nat) (w : World) : Calls Tryz.prog 174 #[.int .u32 (a : Int), .int .u32 (b : Int)] w fun e w' => e = .returned (.int .i64 (M.cmp a b)) ∧ w = w' := by
 go_enter Tryz.func174, Tryz.ntmps174
 go_wp2_with (go_at_call 185; refine (isNaN_u32 _ _).mono ?_; rintro e w' ⟨rfl, rfl⟩)
 ·go_ret
  exact ⟨ret_int (M.cmp_lt (by assumption)).symm, rfl⟩
 ·go_ret
  exact ⟨ret_int (M.cmp_gt (by assumption)).symm, rfl⟩
 ·go_ret
  exact ⟨ret_int (M.cmp_zero.2 (by omega)).symm, rfl⟩
theorem cmp_int (a b : Nat) (w : World) : Calls Tryz.prog 133 #[.int .i64 (a : Int), .int .i64 (b : Int)] w fun e w' => e = .returned (.int .i64 (M.cmp a b)) ∧ w = w' := by
 go_enter Tryz.func133, Tryz.ntmps133
 go_wp2_with (go_at_call 157; refine (isNaN_int _ _).mono ?_; rintro e w' ⟨rfl, rfl⟩)
 ·go_ret
  exact ⟨ret_int (M.cmp_lt (by assumption)).symm, rfl⟩
 ·go_ret
  exact ⟨ret_int (M.cmp_gt (by assumption)).symm, rfl⟩
 ·go_ret
  exact ⟨ret_int (M.cmp_zero.2 (by omega)).symm, rfl⟩
theorem compare_any (w : World) (u v : Value) (l m : List Nat) {C D : Nat} (hu : Num w C u l) (hv : Num w D v m) (hl : Hid (M.isNat l = true)) (hm : Hid (M.isNat m = true)) :
 Calls Tryz.prog 158 #[u, v] w fun e w' => e = .returned (.int .i64 (M.cmp (M.val l) (M.val m))) ∧ ∃ k, w' = w.drewN k := by
 obtain ⟨A, n, c, rfl, hn, hc, hm0, hs, hr⟩ := hu
 obtain ⟨A', n', c', rfl, hn', hc', hm', hs', hr'⟩ := hv
 have hb : n ≤ 9223372036854775807 := by unfold maxLen at hm0; omega
 have hb' : n' ≤ 9223372036854775807 := by unfold maxLen at hm'; omega
 have HR := hid hr
 have HR' := hid hr'
 have HN := hid hn
 have HN' := hid hn'
 clear hr hn hs hm0 hr' hn' hs' hm' hc hc'
 by_cases hnn : n = n'
 ·subst hnn
  go_enter Tryz.func158, Tryz.ntmps158
  go_wp2
  go_loopw [5] (fun i wr => ∃ (k p : Nat) (z : Int), k ≤ n ∧ z = (k : Int) - 1 ∧ i = .int .i64 z ∧ wr = w.drewN p ∧ l.drop k = m.drop k) (fun i _ => (intOf i + 1).toNat)
  case atStart => exact ⟨n, 0, _, Nat.le_refl _, rfl, rfl, rfl, by rw [List.drop_eq_nil_of_le (by rw [← HN.out]; exact Nat.le_refl _), List.drop_eq_nil_of_le (by rw [← HN'.out]; exact Nat.le_refl _)]⟩
  case round =>
   obtain ⟨k, p, z, hk, hz, rfl, rfl, he⟩ := hrel
   have HE := hid he
   clear he
   rcases k with _ | k
   ·obtain rfl : z = -1 := by omega
    clear hz
    go_wp2
    go_ret
    refine ⟨ret_int (M.cmp_zero.2 ?_).symm, p, rfl⟩
    have := HE.out
    simp only [List.drop_zero] at this
    rw [this]
   ·obtain rfl : z = (k : Int) := by omega
    clear hz
    have hlt : k < n := by omega
    obtain ⟨ad, x, rfl, _, HX, hcell⟩ := HR.out.get (k := k) (by rw [← HN.out]; exact hlt)
    obtain ⟨ad', x', rfl, _, HX', hcell'⟩ := HR'.out.get (k := k) (by rw [← HN'.out]; exact hlt)
    by_cases hx : x = x'
    ·subst hx
     go_wp2
     go_quiet (fail)
     go_wp2
     go_roundw
     case rel => exact ⟨k, p + nq, _, by omega, rfl, rfl, rfl, M.drop_same HX.out HX'.out HE.out⟩
     case measure => simp [intOf]; all_goals omega
    ·have hx' := hid hx
     have hne : ((x : Int) != (x' : Int)) = true := by simpa using (by omega : ¬ (x : Int) = x')
     clear hx
     go_wp2
     go_quiet (fail)
     go_wp2
     go_quiet ((go_at_call 174; exact quiet_add_left (cmp_u32 _ _ _)))
     go_wp2
     go_ret
     refine ⟨ret_int (M.cmp_at (M.isNat_iff.1 hl.out).1 (M.isNat_iff.1 hm.out).1 HX.out HX'.out HE.out hx'.out), drew3 _ _ _ _⟩
 ·go_enter Tryz.func158, Tryz.ntmps158
  go_wp2_with (go_at_call 133; refine (cmp_int _ _ _).mono ?_; rintro e w' ⟨rfl, rfl⟩)
  all_goals go_ret
  all_goals exact ⟨ret_int (by have h := M.cmp_len hl.out hm.out; rw [← HN.out, ← HN'.out] at h; exact h hnn), 0, rfl⟩
theorem natCmp_any (w : World) (u v : Value) (l m : List Nat) {C D : Nat} (hu : Num w C u l) (hv : Num w D v m) :
 Calls Tryz.prog 134 #[u, v] w fun e w' => e = .returned (.int .i64 (M.cmp (M.nv l) (M.nv m))) ∧ Below w.heap.size w w' := by
 have HU := hid hu
 have HV := hid hv
 clear hu hv
 go_enter Tryz.func134, Tryz.ntmps134
 go_wp2_with fail
 refine (natural_any w u l HU.out).mono ?_
 rintro e w' ⟨⟨u', rfl, hu'⟩, rfl⟩
 have HU' := hid hu'
 clear hu'
 go_wp2_with fail
 refine (natural_any w v m HV.out).mono ?_
 rintro e w' ⟨⟨v', rfl, hv'⟩, rfl⟩
 have HV' := hid hv'
 clear hv'
 go_wp2_with fail
 refine (compare_any w u' v' _ _ HU'.out HV'.out (M.isNat_nat l) (M.isNat_nat m)).mono ?_
 rintro e w' ⟨rfl, k, rfl⟩
 go_wp2
 go_ret
 exact ⟨ret_int (by rw [M.val_nat, M.val_nat]), below_drewN (Below.refl _ _) _⟩
def Many (w : World) (C g : Nat) (ls : List (List Nat)) : Prop := g < C ∧ ∀ (j : Nat) l, ls[j]? = some l → ∃ v, w.cell? ⟨g, j, none⟩ = some v ∧ Num w C v l
theorem Many.keep {w w' : World} {C g : Nat} {ls : List (List Nat)} (h : Many w C g ls) (hb : Below C w w') : Many w' C g ls :=
 ⟨h.1, fun j l hl => by
  obtain ⟨v, h1, h2⟩ := h.2 j l hl
  exact ⟨v, by rw [hb.cell (p := ⟨g, j, none⟩) h.1]; exact h1, h2.keep hb (Nat.le_refl _)⟩⟩
theorem Many.get {w : World} {C g : Nat} {ls : List (List Nat)} (h : Many w C g ls) {j : Nat} (hj : j < ls.length) :
 ∃ l A n c, Hid (ls[j]? = some l) ∧ w.cell? ⟨g, j, none⟩ = some (.slice A n c) ∧ Hid (n = l.length) ∧ Hid (n ≤ maxLen) ∧ Hid (∀ x ∈ l, x < 4294967296) ∧ Hid (Row w C A l) := by
 obtain ⟨v, h1, A, n, c, rfl, hn, hc, hm, hs, hr⟩ := h.2 j _ (List.getElem?_eq_getElem hj)
 exact ⟨_, A, n, c, List.getElem?_eq_getElem hj, h1, hn, by unfold Hid; omega, hs, hr⟩
theorem sum_any (w : World) (g r : Nat) (ls : List (List Nat)) {C : Nat} (hr : Hid (r = ls.length)) (hr1 : r ≤ 1000) (hC : Hid (C ≤ w.heap.size)) (hm : Hid (Many w C g ls))
 (hl : Hid (M.longest ls ≤ 100000000)) (hs : Hid (∀ l ∈ ls, l.getLast? ≠ some 0)) (hK : Hid ((M.limbs (M.tot ls 0)).length ≤ 900000000)) :
 Calls Tryz.prog 186 #[.slice (some ⟨g, 0, none⟩) r r] w (Gives w (M.limbs (M.tot ls 0))) := by
 go_enter Tryz.func186, Tryz.ntmps186
 go_wp2
 go_loop [3, 13] (fun s j => ∃ k m : Nat, k ≤ r ∧ j = .int .i64 k ∧ s = .int .i64 m ∧ m = M.longest (ls.take k)) (fun _ j => r - (intOf j).toNat)
 case atStart => exact ⟨0, 0, Nat.zero_le _, rfl, rfl, rfl⟩
 case round =>
  obtain ⟨k, m, hk, rfl, rfl, hmm⟩ := hrel
  have HMM := hid hmm
  have hm9 : m ≤ 100000000 := by rw [hmm]; exact Nat.le_trans (M.longest_take_le _ _) hl.out
  clear hmm
  by_cases hlt : k < r
  ·obtain ⟨l, A, n, c, HL, hcell, HN, HM, HS, HR⟩ := hm.out.get (j := k) (by rw [← hr.out]; exact hlt)
   have hn9 : n ≤ 9223372036854775807 := by have := HM.out; unfold maxLen at this; omega
   go_wp2
   go_round
   case rel =>
    refine ⟨k + 1, max m n, by omega, by go_num, ?_, ?_⟩
    ·split <;> congr 1 <;> omega
    ·rw [M.longest_take HL.out, ← HMM.out, HN.out]
   case measure => simp [intOf]; all_goals omega
  ·have hmk : ∀ W : World, (Instr.makeSlice 22 (.int .i64 0) (.int .i64 ((m : Int) + 1))).run Tryz.prog W = .ok (.slice (some ⟨W.heap.size, 0, none⟩) 0 (m + 1)) (W.alloc (.cells (zeros (m + 1)) 97)) :=
    make_u32 _ _ 0 _ 0 (m + 1) rfl (by omega) (by omega) (by omega)
   have HM2 : Hid (m = M.longest ls) := by
    have := HMM.out
    rwa [List.take_of_length_le (by have := hr.out; omega)] at this
   clear HMM
   go_wp2
   clear hmk
   go_loopw [6, 7, 8] (fun v cr i wr => ∃ (xs : List Nat) (c j : Nat), i = .int .i64 (j : Int) ∧ cr = .int .u64 (c : Int) ∧ c ≤ 10000 ∧ j = xs.length ∧ Own w.heap.size wr v xs ∧ Below w.heap.size w wr ∧
    M.limbs (M.tot ls 0) = xs ++ M.limbs (c + M.tot ls j)) (fun _ cr i _ => (m - (intOf i).toNat) * 100000 + (intOf cr).toNat)
   case atStart => exact ⟨[], 0, 0, rfl, rfl, by omega, rfl, Own.made w _ _ _ (Nat.le_refl _) (by unfold maxLen; omega) (zeros_size _), (Below.refl _ _).alloc (Nat.le_refl _) _, by simp⟩
   case round =>
    obtain ⟨xs, c, j, rfl, rfl, hc, hj, hown, hbel, he⟩ := hrel
    have HJ := hid hj
    have HO := hid hown
    have HB := hid hbel
    have HE := hid he
    clear hj hown hbel he
    by_cases hgo : j < m ∨ 0 < c
    ·have hsplit : j < m ∨ (¬ j < m ∧ 0 < c) := by omega
     clear hgo
     have HT : Hid (0 < c + M.tot ls j) := by
      rcases hsplit with h | h
      ·have := M.tot_pos hs.out (i := j) (by have := HM2.out; omega)
       unfold Hid; omega
      ·unfold Hid; omega
     have hj9 : j ≤ 900000000 := by
      have h1 := hK.out
      rw [HE.out, M.limbs_pos (by have := HT.out; omega), List.length_append, ← HJ.out] at h1
      omega
     have HMW := hid (hm.out.keep (HB.out.mono hC.out))
     have HCL := hid (M.col_take_le (ls := ls) (fun l hl x hx => by
      obtain ⟨t, ht, rfl⟩ := List.mem_iff_getElem.1 hl
      obtain ⟨v, _, A, n, c, rfl, hn, _, _, hs, _⟩ := hm.out.2 t _ (List.getElem?_eq_getElem ht)
      exact hs x hx))
     obtain ⟨wo, rfl⟩ : ∃ wo : World, wo = wr := ⟨_, rfl⟩
     rcases hsplit with h1 | ⟨h1, h2⟩
     all_goals
      go_wp2
      go_loop [7, 36] (fun cr t => ∃ (q k2 : Nat), q ≤ r ∧ t = .int .i64 (q : Int) ∧ cr = .int .u64 (k2 : Int) ∧ k2 = c + M.col (ls.take q) j) (fun _ t => r - (intOf t).toNat)
      case atStart => exact ⟨0, c, Nat.zero_le _, rfl, rfl, by simp [M.col]⟩
      case round =>
       obtain ⟨q, k2, hq, rfl, rfl, hk2⟩ := hrel
       have HK2 := hid hk2
       have hk9 : k2 ≤ 5000000000000 := by
        have h1 := HCL.out q j
        have h2 := hr.out
        rw [← h2] at h1
        have h3 : r * 4294967295 ≤ 1000 * 4294967295 := Nat.mul_le_mul_right _ hr1
        omega
       clear hk2
       by_cases hlt2 : q < r
       ·obtain ⟨l, A, n, c', HL, hcell, HN, HMX, HS, HR⟩ := HMW.out.get (j := q) (by rw [← hr.out]; exact hlt2)
        have hn9 : n ≤ 9223372036854775807 := by have := HMX.out; unfold maxLen at this; omega
        by_cases hjn : j < n
        ·obtain ⟨ad, x, rfl, _, HX, hcx⟩ := HR.out.get (k := j) (by rw [← HN.out]; exact hjn)
         have hx9 := HS.out x (List.mem_of_getElem? HX.out)
         go_wp2
         go_round
         case rel =>
          refine ⟨q + 1, k2 + x, by omega, by go_num, by go_num, ?_⟩
          rw [M.col_take HL.out, HK2.out, List.getD_eq_getElem?_getD, HX.out]
          simp [Nat.add_assoc]
         case measure => simp [intOf]; all_goals omega
        ·go_wp2
         go_round
         case rel =>
          refine ⟨q + 1, k2, by omega, by go_num, rfl, ?_⟩
          rw [M.col_take HL.out, HK2.out, List.getD_eq_getElem?_getD, List.getElem?_eq_none (by rw [← HN.out]; omega)]
          simp
         case measure => simp [intOf]; all_goals omega
       ·have hqr : q = r := by omega
        subst hqr
        have HK3 : Hid (k2 = c + M.col ls j) := by
         have := HK2.out
         rwa [List.take_of_length_le (by rw [← hr.out]; exact Nat.le_refl _)] at this
        go_wp2_with (at_builtin; go_loud (refine wpList_app1 rfl (.tmp 52) (.tmp 56) rfl w.heap.size _ xs rfl (HO.out.alloc _) wo.heap.size (k2 % 1000000000) rfl (by simp [go_sem]) (by omega) (by have := HJ.out; omega) (by have := HB.out.size; simp; omega) ?_))
        intro v' w' hown' hgrow
        have HO' := hid hown'
        have HG := hid hgrow
        have HD := hid (M.tot_step ls j)
        have HZ : Hid (¬ j < m → M.tot ls j = 0) := fun h => M.tot_done (by have := HM2.out; omega)
        clear hown' hgrow
        go_wp2
        go_roundw
        case rel =>
         refine ⟨xs ++ [k2 % 1000000000], k2 / 1000000000, j + 1, by go_num, by go_num, by omega, by rw [List.length_append, ← HJ.out]; rfl, HO'.out, ?_, M.sum_step HE.out HT.out HK3.out⟩
         have hz := HB.out.size
         exact (HB.out.alloc (by omega) _).trans ((HO.out.alloc _).below HG.out (Nat.le_refl _) (by simp; omega))
        case measure =>
         have a1 := HK3.out
         have a2 := HD.out
         have a3 := HZ.out
         simp [intOf]
         omega
    ·have h1 : ¬ j < m := by omega
     have h2 : c = 0 := by omega
     subst h2
     clear hgo
     go_wp2
     go_ret
     refine ⟨_, rfl, ?_, HB.out⟩
     have h3 := HE.out
     rw [M.tot_done (i := j) (by have := HM2.out; omega), Nat.add_zero, M.limbs_zero, List.append_nil] at h3
     rw [h3]
     exact HO.out.num
theorem many2 {w : World} {C : Nat} {u v : Value} {l m : List Nat} (hu : Num w C u l) (hv : Num w C v m) (hC : C ≤ w.heap.size) (t : TypeId) :
 Many (w.alloc (.cells #[u, v] t)) (w.heap.size + 1) w.heap.size [l, m] := by
 have hb : Below C w (w.alloc (.cells #[u, v] t)) := (Below.refl _ _).alloc hC _
 refine ⟨by omega, fun j x hj => ?_⟩
 match j, hj with
 | 0, hj => simp at hj; subst hj; exact ⟨u, by rw [World.cell?_alloc_at _ _ _ _ rfl]; rfl, hu.keep hb (by omega)⟩
 | 1, hj => simp at hj; subst hj; exact ⟨v, by rw [World.cell?_alloc_at _ _ _ _ rfl]; rfl, hv.keep hb (by omega)⟩
theorem longest2 (l m : List Nat) : M.longest [l, m] = max l.length m.length := by simp [M.longest]
theorem last2 {l m : List Nat} (hl : l.getLast? ≠ some 0) (hm : m.getLast? ≠ some 0) : ∀ x ∈ [l, m], x.getLast? ≠ some 0 := by
 intro x hx; simp at hx; rcases hx with rfl | rfl <;> assumption
theorem len2 (l m : List Nat) : (M.limbs (M.nv l + M.nv m)).length ≤ max l.length m.length + 1 := M.limbs_add_length _ _ (M.nv_lt l) (M.nv_lt m)
theorem add_any (w : World) (u v : Value) (l m : List Nat) (hu : Num w w.heap.size u l) (hv : Num w w.heap.size v m) (hl : Hid (l.length ≤ 100000000)) (hm : Hid (m.length ≤ 100000000)) :
 Calls Tryz.prog 177 #[u, v] w (Gives w (M.limbs (M.nv l + M.nv m))) := by
 have HU := hid hu
 have HV := hid hv
 clear hu hv
 go_enter Tryz.func177, Tryz.ntmps177
 go_wp2_with fail
 refine (natural_any w u l HU.out).mono ?_
 rintro e w' ⟨⟨u', rfl, hu'⟩, rfl⟩
 have HU' := hid hu'
 clear hu'
 go_wp2_with fail
 refine (natural_any w v m HV.out).mono ?_
 rintro e w' ⟨⟨v', rfl, hv'⟩, rfl⟩
 have HV' := hid hv'
 clear hv'
 have HM := hid (many2 HU'.out HV'.out (Nat.le_refl _) 22)
 obtain ⟨A, n, c, rfl⟩ := HU'.out.slice
 obtain ⟨A', n', c', rfl⟩ := HV'.out.slice
 go_wp2_with fail
 have e : M.tot [M.nat l, M.nat m] 0 = M.nv l + M.nv m := by rw [M.tot_two, M.val_nat, M.val_nat]
 have h1 := M.nat_length l
 have h2 := M.nat_length m
 refine (sum_any _ _ 2 [M.nat l, M.nat m] (C := w.heap.size + 1) rfl (by omega) (by unfold Hid; simp) HM
  (by unfold Hid; rw [longest2]; have := hl.out; have := hm.out; omega) (last2 (M.last_nat l) (M.last_nat m)) (by unfold Hid; rw [e]; have := len2 l m; have := hl.out; have := hm.out; omega)).mono ?_
 rw [e]
 rintro e w' ⟨v, rfl, hv, hb⟩
 have HV2 := hid hv
 have HB := hid hb
 clear hv hb
 go_wp2
 go_ret
 exact ⟨_, rfl, HV2.out, ((Below.refl _ _).alloc (Nat.le_refl _) _).trans (HB.out.mono (by simp))⟩
theorem difference_any (w : World) (u v : Value) (l m : List Nat) (hu : Num w w.heap.size u l) (hv : Num w w.heap.size v m) (hl : Hid (M.isNat l = true)) (hm : Hid (M.isNat m = true)) (hle : Hid (M.val m ≤ M.val l)) (hlen : Hid (l.length ≤ 100000000)) :
 Calls Tryz.prog 187 #[u, v] w (Gives w (M.limbs (M.val l - M.val m))) := by
 obtain ⟨A, n, c, rfl, hn, hc, hm0, hs, hr⟩ := hu
 obtain ⟨A', n', c', rfl, hn', hc', hm', hs', hr'⟩ := hv
 have hb : n ≤ 100000000 := by rw [hn]; exact hlen.out
 have HLE := M.length_le_of_val (M.isNat_iff.1 hl.out).1 (M.isNat_iff.1 hm.out).2 hle.out
 have hb' : n' ≤ n := by omega
 have HR := hid hr
 have HR' := hid hr'
 have HN := hid hn
 have HN' := hid hn'
 have HS := hid (M.small_iff.1 (M.isNat_iff.1 hl.out).1)
 have HS' := hid (M.small_iff.1 (M.isNat_iff.1 hm.out).1)
 clear hr hn hs hm0 hr' hn' hs' hm' hc hc' HLE
 have hmk : ∀ W : World, (Instr.makeSlice 22 (.int .i64 (n : Int)) (.int .i64 (n : Int))).run Tryz.prog W = .ok (.slice (some ⟨W.heap.size, 0, none⟩) n n) (W.alloc (.cells (zeros n) 97)) :=
  make_u32 _ _ _ _ n n rfl rfl (Nat.le_refl _) (by omega)
 go_enter Tryz.func187, Tryz.ntmps187
 go_wp2
 clear hmk
 go_loopw [6, 15] (fun sb i wr => ∃ (k bo : Nat) (o : List Nat), k ≤ n ∧ i = .int .i64 (k : Int) ∧ sb = .int .u32 (bo : Int) ∧ bo ≤ 1 ∧ o.length = n ∧ Blk wr w.heap.size o ∧ Below w.heap.size w wr ∧ M.small (o.take k) = true ∧
  M.val (l.take k) + 1000000000 ^ k * bo = M.val (m.take k) + M.val (o.take k)) (fun _ i _ => n - (intOf i).toNat)
 case atStart => exact ⟨0, 0, List.replicate n 0, Nat.zero_le _, rfl, rfl, by omega, by simp, Blk.made _ _, (Below.refl _ _).alloc (Nat.le_refl _) _, rfl, by simp [M.val]⟩
 case round =>
  obtain ⟨k, bo, o, hk, rfl, rfl, hbo, ho, hblk, hbel, hsm, hval⟩ := hrel
  have HO := hid ho
  have HBL := hid hblk
  have HB := hid hbel
  have HSM := hid hsm
  have HV := hid hval
  clear ho hblk hbel hsm hval
  by_cases hlt : k < n
  ·obtain ⟨ad, x, rfl, had, HX, hcell⟩ := (HR.out.keep HB.out (Nat.le_refl _)).get (k := k) (by rw [← HN.out]; exact hlt)
   have hx9 := HS.out x (List.mem_of_getElem? HX.out)
   have hko : k < o.length := by rw [HO.out]; exact hlt
   obtain ⟨z, hz⟩ : ∃ z, o[k]? = some z := ⟨_, List.getElem?_eq_getElem hko⟩
   have HKO := hid hko
   have hoc := HBL.out.cell hz
   have hof := HBL.out.frozen k
   clear hz hko
   by_cases hkm : k < n'
   ·obtain ⟨ad', y, rfl, had', HY, hcell'⟩ := (HR'.out.keep HB.out (Nat.le_refl _)).get (k := k) (by rw [← HN'.out]; exact hkm)
    have hy9 := HS'.out y (List.mem_of_getElem? HY.out)
    go_wp2
    ·go_roundw
     case rel =>
      exact ⟨k + 1, 1, o.set k (x + 1000000000 - (bo + y)), by omega, by go_num, rfl, by omega, by rw [List.length_set]; exact HO.out, HBL.out.put _ (by omega), HB.out.setCell (Nat.le_refl _) _,
       M.small_set HSM.out (by omega) HKO.out, by rw [M.val_take HX.out, M.val_take HY.out, M.val_set HKO.out, Nat.pow_succ]; exact M.diff_step HV.out (by omega)⟩
     case measure => simp [intOf]; all_goals omega
    ·go_roundw
     case rel =>
      exact ⟨k + 1, 0, o.set k (x - (bo + y)), by omega, by go_num, rfl, by omega, by rw [List.length_set]; exact HO.out, HBL.out.put _ (by omega), HB.out.setCell (Nat.le_refl _) _,
       M.small_set HSM.out (by omega) HKO.out, by rw [M.val_take HX.out, M.val_take HY.out, M.val_set HKO.out, Nat.pow_succ]; exact M.diff_step HV.out (by omega)⟩
     case measure => simp [intOf]; all_goals omega
   ·have HY := hid (M.val_take_over (l := m) (k := k) (by rw [← HN'.out]; omega))
    go_wp2
    ·go_roundw
     case rel =>
      exact ⟨k + 1, 1, o.set k (x + 1000000000 - bo), by omega, by go_num, rfl, by omega, by rw [List.length_set]; exact HO.out, HBL.out.put _ (by omega), HB.out.setCell (Nat.le_refl _) _,
       M.small_set HSM.out (by omega) HKO.out, by rw [M.val_take HX.out, HY.out, M.val_set HKO.out, Nat.pow_succ]; exact M.diff_step HV.out (by omega)⟩
     case measure => simp [intOf]; all_goals omega
    ·go_roundw
     case rel =>
      exact ⟨k + 1, 0, o.set k (x - bo), by omega, by go_num, rfl, by omega, by rw [List.length_set]; exact HO.out, HBL.out.put _ (by omega), HB.out.setCell (Nat.le_refl _) _,
       M.small_set HSM.out (by omega) HKO.out, by rw [M.val_take HX.out, HY.out, M.val_set HKO.out, Nat.pow_succ]; exact M.diff_step HV.out (by omega)⟩
     case measure => simp [intOf]; all_goals omega
  ·have hkn : k = n := by omega
   subst hkn
   have hos : M.small o = true := by have := HSM.out; rwa [List.take_of_length_le (by rw [HO.out]; exact Nat.le_refl _)] at this
   have hov : M.val o = M.val l - M.val m := by
    have h1 := HV.out
    rw [List.take_of_length_le (by rw [← HN.out]; exact Nat.le_refl _), List.take_of_length_le (by rw [← HN'.out]; exact hb'), List.take_of_length_le (by rw [HO.out]; exact Nat.le_refl _)] at h1
    exact M.diff_end h1 (by have := M.val_lt hos; rwa [HO.out] at this) hbo hle.out
   have HNUM := hid (HBL.out.num (fun x hx => by have := M.small_iff.1 hos x hx; omega) (by rw [HO.out]; unfold maxLen; omega) HO.out.symm)
   have HOS := hid hos
   have HOV := hid hov
   clear hos hov
   go_wp2_with fail
   refine (trimmed_any wr _ o HNUM.out HOS.out).mono ?_
   rintro e w' ⟨⟨v', rfl, hv'⟩, rfl⟩
   have HV' := hid hv'
   clear hv'
   go_wp2
   go_ret
   refine ⟨_, rfl, ?_, HB.out⟩
   rw [← HOV.out]
   exact HV'.out
theorem sub_any (w : World) (u v : Value) (l m : List Nat) (hu : Num w w.heap.size u l) (hv : Num w w.heap.size v m) (hl : Hid (l.length ≤ 100000000)) :
 Calls Tryz.prog 178 #[u, v] w (Gives w (M.limbs (M.nv l - M.nv m))) := by
 have HU := hid hu
 have HV := hid hv
 clear hu hv
 have hcr := M.cmp_range (M.val (M.nat l)) (M.val (M.nat m))
 by_cases hlt : M.nv m < M.nv l
 ·have hc := M.cmp_gt hlt
  rw [← M.val_nat, ← M.val_nat] at hc
  have HC := hid hc
  have HLT := hid hlt
  clear hc hlt
  go_enter Tryz.func178, Tryz.ntmps178
  go_wp2_with fail
  refine (natural_any w u l HU.out).mono ?_
  rintro e w' ⟨⟨u', rfl, hu'⟩, rfl⟩
  have HU' := hid hu'
  clear hu'
  go_wp2_with fail
  refine (natural_any w v m HV.out).mono ?_
  rintro e w' ⟨⟨v', rfl, hv'⟩, rfl⟩
  have HV' := hid hv'
  clear hv'
  go_wp2_with fail
  refine (compare_any w u' v' _ _ HU'.out HV'.out (M.isNat_nat l) (M.isNat_nat m)).mono ?_
  rw [HC.out]
  rintro e w' ⟨rfl, k, rfl⟩
  go_wp2_with fail
  have hb := below_drewN (Below.refl w.heap.size w) k
  refine (difference_any (w.drewN k) u' v' _ _ (HU'.out.keep hb (Nat.le_refl _)) (HV'.out.keep hb (Nat.le_refl _)) (M.isNat_nat l) (M.isNat_nat m) (by unfold Hid; rw [M.val_nat, M.val_nat]; have := HLT.out; omega) (by unfold Hid; have := M.nat_length l; have := hl.out; omega)).mono ?_
  rw [M.val_nat, M.val_nat]
  rintro e w' ⟨v, rfl, hv, hb2⟩
  have HV2 := hid hv
  have HB := hid (hb.trans hb2)
  clear hv hb hb2
  go_wp2
  go_ret
  exact ⟨_, rfl, HV2.out, HB.out⟩
 ·have hc : ¬ 0 < M.cmp (M.val (M.nat l)) (M.val (M.nat m)) := by
   rw [M.val_nat, M.val_nat, M.cmp_swap]; intro h; exact hlt (M.cmp_neg.1 (by omega))
  have HLT := hid hlt
  obtain ⟨z, hz⟩ : ∃ z : Int, z = M.cmp (M.val (M.nat l)) (M.val (M.nat m)) := ⟨_, rfl⟩
  rw [← hz] at hc hcr
  have HZ := hid hz
  have hz0 : z ≤ 0 := by omega
  clear hz hlt hc
  go_enter Tryz.func178, Tryz.ntmps178
  go_wp2_with fail
  refine (natural_any w u l HU.out).mono ?_
  rintro e w' ⟨⟨u', rfl, hu'⟩, rfl⟩
  have HU' := hid hu'
  clear hu'
  go_wp2_with fail
  refine (natural_any w v m HV.out).mono ?_
  rintro e w' ⟨⟨v', rfl, hv'⟩, rfl⟩
  have HV' := hid hv'
  clear hv'
  go_wp2_with fail
  refine (compare_any w u' v' _ _ HU'.out HV'.out (M.isNat_nat l) (M.isNat_nat m)).mono ?_
  rw [← HZ.out]
  rintro e w' ⟨rfl, k, rfl⟩
  go_wp2
  go_ret
  refine ⟨_, rfl, ?_, below_drewN (Below.refl _ _) _⟩
  rw [show M.nv l - M.nv m = 0 by have := HLT.out; omega, M.limbs_zero]
  exact Num.nil _ _
theorem getD_some {l : List Nat} {k : Nat} (hk : k < l.length) : l[k]? = some (l.getD k 0) := by
 rw [List.getD_eq_getElem?_getD, List.getElem?_eq_getElem hk]; rfl
theorem limbByLimb_any (w : World) (u v : Value) (l m : List Nat) (hu : Num w w.heap.size u l) (hv : Num w w.heap.size v m) (hl : Hid (M.small l = true)) (hm : Hid (M.small m = true)) (hlen : Hid (l.length ≤ 100000000)) (hlen' : Hid (m.length ≤ 100000000)) :
 Calls Tryz.prog 180 #[u, v] w (Gives w (M.limbs (M.val l * M.val m))) := by
 obtain ⟨A, n, c, rfl, hn, hc, hm0, hs, hr⟩ := hu
 obtain ⟨A', n', c', rfl, hn', hc', hm', hs', hr'⟩ := hv
 have hb : n ≤ 100000000 := by rw [hn]; exact hlen.out
 have hb' : n' ≤ 100000000 := by rw [hn']; exact hlen'.out
 have HR := hid hr
 have HR' := hid hr'
 have HN := hid hn
 have HN' := hid hn'
 have HS := hid (M.small_iff.1 hl.out)
 have HS' := hid (M.small_iff.1 hm.out)
 clear hr hn hs hm0 hr' hn' hs' hm' hc hc'
 by_cases h0 : n = 0
 ·subst h0
  go_enter Tryz.func180, Tryz.ntmps180
  go_wp2
  go_ret
  refine ⟨_, rfl, ?_, Below.refl _ _⟩
  rw [List.eq_nil_of_length_eq_zero HN.out.symm]
  simp only [M.val, Nat.zero_mul, M.limbs_zero]
  exact Num.nil _ _
 by_cases h0' : n' = 0
 ·subst h0'
  have hz : ((n : Int) == 0) = false := by simpa using h0
  go_enter Tryz.func180, Tryz.ntmps180
  go_wp2
  go_ret
  refine ⟨_, rfl, ?_, Below.refl _ _⟩
  rw [List.eq_nil_of_length_eq_zero HN'.out.symm]
  simp only [M.val, Nat.mul_zero, M.limbs_zero]
  exact Num.nil _ _
 have hz : ((n : Int) == 0) = false := by simpa using h0
 have hz' : ((n' : Int) == 0) = false := by simpa using h0'
 have hmk : ∀ W : World, (Instr.makeSlice 22 (.int .i64 ((n : Int) + (n' : Int))) (.int .i64 ((n : Int) + (n' : Int)))).run Tryz.prog W = .ok (.slice (some ⟨W.heap.size, 0, none⟩) (n + n') (n + n')) (W.alloc (.cells (zeros (n + n')) 97)) :=
  make_u32 _ _ _ _ (n + n') (n + n') (by omega) (by omega) (Nat.le_refl _) (by omega)
 go_enter Tryz.func180, Tryz.ntmps180
 go_wp2
 clear hmk hz hz' h0 h0'
 go_loopw [28] (fun si wr => ∃ (i : Nat) (o : List Nat), i ≤ n' ∧ si = .int .i64 (i : Int) ∧ o.length = n + n' ∧ Blk wr w.heap.size o ∧ Below w.heap.size w wr ∧ M.small o = true ∧
  M.val o = M.val l * M.val (m.take i) ∧ ∀ t, i + n ≤ t → o.getD t 0 = 0) (fun si _ => n' - (intOf si).toNat)
 case atStart => exact ⟨0, List.replicate (n + n') 0, Nat.zero_le _, rfl, by simp, Blk.made _ _, (Below.refl _ _).alloc (Nat.le_refl _) _, M.small_replicate _, by simp [M.val, M.val_replicate], fun t _ => by
  rw [List.getD_eq_getElem?_getD, List.getElem?_replicate]; split <;> rfl⟩
 case round =>
  obtain ⟨i, o, hi, rfl, ho, hblk, hbel, hsm, hval, hzr⟩ := hrel
  have HO := hid ho
  have HBL := hid hblk
  have HB := hid hbel
  have HSM := hid hsm
  have HV := hid hval
  have HZR := hid hzr
  clear ho hblk hbel hsm hval hzr
  by_cases hlt : i < n'
  ·obtain ⟨ad', y, rfl, had', HY, hcell'⟩ := (HR'.out.keep HB.out (Nat.le_refl _)).get (k := i) (by rw [← HN'.out]; exact hlt)
   have hy9 := HS'.out y (List.mem_of_getElem? HY.out)
   go_wp2
   obtain ⟨wo, rfl⟩ : ∃ wo : World, wo = wr := ⟨_, rfl⟩
   go_loopw [8, 35] (fun cr sj wr => ∃ (j c : Nat) (o : List Nat), j ≤ n ∧ sj = .int .i64 (j : Int) ∧ cr = .int .u64 (c : Int) ∧ c < 1000000000 ∧ o.length = n + n' ∧ Blk wr w.heap.size o ∧ Below w.heap.size w wr ∧ M.small o = true ∧
    M.val o + 1000000000 ^ (i + j) * c = M.val l * M.val (m.take i) + 1000000000 ^ i * y * M.val (l.take j) ∧ ∀ t, i + n ≤ t → o.getD t 0 = 0) (fun _ sj _ => n - (intOf sj).toNat)
   case atStart => exact ⟨0, 0, o, Nat.zero_le _, rfl, rfl, by omega, HO.out, HBL.out, HB.out, HSM.out, by rw [HV.out]; simp [M.val], HZR.out⟩
   case round =>
    clear HO HBL HB HSM HV HZR
    obtain ⟨j, c, o, hj, rfl, rfl, hc9, ho, hblk, hbel, hsm, hval, hzr⟩ := hrel
    have HO := hid ho
    have HBL := hid hblk
    have HB := hid hbel
    have HSM := hid hsm
    have HV := hid hval
    have HZR := hid hzr
    clear ho hblk hbel hsm hval hzr
    by_cases hjn : j < n
    ·obtain ⟨ad, x, rfl, had, HX, hcell⟩ := (HR.out.keep HB.out (Nat.le_refl _)).get (k := j) (by rw [← HN.out]; exact hjn)
     have hx9 := HS.out x (List.mem_of_getElem? HX.out)
     have hko : i + j < o.length := by rw [HO.out]; omega
     obtain ⟨z, hz⟩ : ∃ z, o[i + j]? = some z := ⟨_, List.getElem?_eq_getElem hko⟩
     have hz9 := M.small_iff.1 HSM.out z (List.mem_of_getElem? hz)
     have HZ := hid hz
     have hoc := HBL.out.cell hz
     have hof := HBL.out.frozen (i + j)
     obtain ⟨p, hp⟩ : ∃ p, p = y * x := ⟨_, rfl⟩
     have hpI : (y : Int) * (x : Int) = (p : Int) := by rw [hp]; simp
     obtain ⟨t, ht⟩ : ∃ t, t = p + z + c := ⟨_, rfl⟩
     obtain ⟨hp9, ht9⟩ := M.carry_lt hp hx9 hy9 hz9 hc9 ht
     have HP := hid hp
     have HT := hid ht
     clear hz hko hp ht
     go_wp2
     go_roundw
     case rel =>
      have ht := HT.out
      refine ⟨j + 1, t / 1000000000, o.set (i + j) (t % 1000000000), by omega, by go_num, ?_, ht9, by rw [List.length_set]; exact HO.out, HBL.out.put _ ?_, HB.out.setCell (Nat.le_refl _) _, M.small_set' HSM.out (by omega), ?_, fun s hs => ?_⟩
      ·congr 1; omega
      ·omega
      ·rw [M.val_take HX.out, show i + (j + 1) = (i + j) + 1 by omega, Nat.pow_succ]
       exact M.mul_step HV.out (M.val_set_at HZ.out _) HT.out HP.out (Nat.pow_add _ _ _)
      ·rw [M.getD_set (by omega)]; exact HZR.out s hs
     case measure => simp [intOf]; all_goals omega
    ·have hjn' : j = n := by omega
     subst hjn'
     have hko : i + j < o.length := by rw [HO.out]; omega
     have hz := getD_some hko
     rw [HZR.out (i + j) (Nat.le_refl _)] at hz
     have HZ := hid hz
     have hoc := HBL.out.cell hz
     have hof := HBL.out.frozen (i + j)
     clear hz hko
     go_wp2
     go_roundw
     case rel =>
      refine ⟨i + 1, o.set (i + j) c, by omega, by go_num, by rw [List.length_set]; exact HO.out, HBL.out.put _ ?_, HB.out.setCell (Nat.le_refl _) _, M.small_set' HSM.out hc9, ?_, fun s hs => ?_⟩
      ·omega
      ·have h1 := HV.out
       rw [List.take_of_length_le (l := l) (by rw [← HN.out]; exact Nat.le_refl _)] at h1
       rw [M.val_take HY.out]
       exact M.mul_end h1 (M.val_set_at HZ.out _) rfl
      ·rw [M.getD_set (by omega)]; exact HZR.out s (by omega)
     case measure => simp [intOf]; all_goals omega
  ·have hin : i = n' := by omega
   subst hin
   have hov : M.val o = M.val l * M.val m := by rw [HV.out, List.take_of_length_le (by rw [← HN'.out]; exact Nat.le_refl _)]
   have HNUM := hid (HBL.out.num (fun x hx => by have := M.small_iff.1 HSM.out x hx; omega) (by rw [HO.out]; unfold maxLen; omega) HO.out.symm)
   have HOV := hid hov
   clear hov
   go_wp2_with fail
   refine (trimmed_any wr _ o HNUM.out HSM.out).mono ?_
   rintro e w' ⟨⟨v', rfl, hv'⟩, rfl⟩
   have HV' := hid hv'
   clear hv'
   go_wp2
   go_ret
   refine ⟨_, rfl, ?_, HB.out⟩
   rw [← HOV.out]
   exact HV'.out
theorem product_any (w : World) (u v : Value) (l m : List Nat) (hu : Num w w.heap.size u l) (hv : Num w w.heap.size v m) (hl : Hid (M.small l = true)) (hm : Hid (M.small m = true)) (hlen : Hid (l.length ≤ 100000000)) (hlen' : Hid (m.length ≤ 100000000)) (hmin : Hid (l.length < 64 ∨ m.length < 64)) :
 Calls Tryz.prog 168 #[u, v] w (Gives w (M.limbs (M.val l * M.val m))) := by
 have HC := hid (limbByLimb_any w u v l m hu hv hl hm hlen hlen')
 obtain ⟨A, n, c, rfl, hn, _⟩ := hu
 obtain ⟨A', n', c', rfl, hn', _⟩ := hv
 have hb : n ≤ 100000000 := by rw [hn]; exact hlen.out
 have hb' : n' ≤ 100000000 := by rw [hn']; exact hlen'.out
 have hmn : n < 64 ∨ n' < 64 := by rw [hn, hn']; exact hmin.out
 clear hn hn'
 obtain ⟨HX, HY⟩ : Hid (n < 64 ∨ n' < 64) ∧ True := ⟨hmn, trivial⟩
 clear hmn HY
 go_enter Tryz.func168, Tryz.ntmps168
 go_wp2_with fail
 all_goals (try (exfalso; have := HX.out; omega))
 all_goals
  refine HC.out.mono ?_
  rintro e w' ⟨v, rfl, hv, hb⟩
  have HV2 := hid hv
  have HB := hid hb
  clear hv hb
  go_wp2
  go_ret
  exact ⟨_, rfl, HV2.out, HB.out⟩
theorem mul_any (w : World) (u v : Value) (l m : List Nat) (hu : Num w w.heap.size u l) (hv : Num w w.heap.size v m) (hlen : Hid (l.length ≤ 100000000)) (hlen' : Hid (m.length ≤ 100000000)) (hmin : Hid (l.length < 64 ∨ m.length < 64)) :
 Calls Tryz.prog 147 #[u, v] w (Gives w (M.limbs (M.nv l * M.nv m))) := by
 have HU := hid hu
 have HV := hid hv
 clear hu hv
 go_enter Tryz.func147, Tryz.ntmps147
 go_wp2_with fail
 refine (natural_any w u l HU.out).mono ?_
 rintro e w' ⟨⟨u', rfl, hu'⟩, rfl⟩
 have HU' := hid hu'
 clear hu'
 go_wp2_with fail
 refine (natural_any w v m HV.out).mono ?_
 rintro e w' ⟨⟨v', rfl, hv'⟩, rfl⟩
 have HV' := hid hv'
 clear hv'
 go_wp2_with fail
 have h1 := M.nat_length l
 have h2 := M.nat_length m
 refine (product_any w u' v' _ _ HU'.out HV'.out (M.small_nat l) (M.small_nat m) (by have := hlen.out; unfold Hid; omega) (by have := hlen'.out; unfold Hid; omega) (by have := hmin.out; unfold Hid; omega)).mono ?_
 rw [M.val_nat, M.val_nat]
 rintro e w' ⟨v, rfl, hv, hb⟩
 have HV2 := hid hv
 have HB := hid hb
 clear hv hb
 go_wp2
 go_ret
 exact ⟨_, rfl, HV2.out, HB.out⟩
def Gives2 (w : World) (l m : List Nat) (e : Ending) (w' : World) : Prop := ∃ u v, e = .returned (.tuple #[u, v]) ∧ Num w' w'.heap.size u l ∧ Num w' w'.heap.size v m ∧ Below w.heap.size w w'
theorem byLimb_any (w : World) (u : Value) (l : List Nat) (b : Nat) (hu : Num w w.heap.size u l) (hl : Hid (M.small l = true)) (hlen : Hid (l.length ≤ 100000000)) (hb0 : 0 < b) (hb9 : b < 1000000000) :
 Calls Tryz.prog 182 #[u, .int .u32 (b : Int)] w (Gives2 w (M.limbs (M.val l / b)) (M.limbs (M.val l % b))) := by
 obtain ⟨A, n, c, rfl, hn, hc, hm0, hs, hr⟩ := hu
 have hb : n ≤ 100000000 := by rw [hn]; exact hlen.out
 have HR := hid hr
 have HN := hid hn
 have HS := hid (M.small_iff.1 hl.out)
 clear hr hn hs hm0 hc
 have hmk : ∀ W : World, (Instr.makeSlice 22 (.int .i64 (n : Int)) (.int .i64 (n : Int))).run Tryz.prog W = .ok (.slice (some ⟨W.heap.size, 0, none⟩) n n) (W.alloc (.cells (zeros n) 97)) :=
  make_u32 _ _ _ _ n n rfl rfl (Nat.le_refl _) (by omega)
 go_enter Tryz.func182, Tryz.ntmps182
 go_wp2
 clear hmk
 go_loopw [6, 7] (fun sr i wr => ∃ (k rest : Nat) (z : Int) (o : List Nat), k ≤ n ∧ z = (k : Int) - 1 ∧ i = .int .i64 z ∧ sr = .int .u64 (rest : Int) ∧ rest < b ∧ o.length = n ∧ Blk wr w.heap.size o ∧ Below w.heap.size w wr ∧ M.small o = true ∧
  M.val (o.drop k) * b + rest = M.val (l.drop k)) (fun _ i _ => (intOf i + 1).toNat)
 case atStart => exact ⟨n, 0, _, List.replicate n 0, Nat.le_refl _, rfl, rfl, rfl, hb0, by simp, Blk.made _ _, (Below.refl _ _).alloc (Nat.le_refl _) _, M.small_replicate _, by rw [List.drop_eq_nil_of_le (by simp), List.drop_eq_nil_of_le (by rw [← HN.out]; exact Nat.le_refl _)]; simp [M.val]⟩
 case round =>
  obtain ⟨k, rest, z, o, hk, hz, rfl, rfl, hrb, ho, hblk, hbel, hsm, hval⟩ := hrel
  have HO := hid ho
  have HBL := hid hblk
  have HB := hid hbel
  have HSM := hid hsm
  have HV := hid hval
  clear ho hblk hbel hsm hval
  rcases k with _ | k
  ·obtain rfl : z = -1 := by omega
   clear hz
   have hov : M.val o = M.val l / b ∧ rest = M.val l % b := by
    have h1 := HV.out
    simp only [List.drop_zero] at h1
    exact M.div_mod_of h1 hrb
   have HNUM := hid (HBL.out.num (fun x hx => by have := M.small_iff.1 HSM.out x hx; omega) (by rw [HO.out]; unfold maxLen; omega) HO.out.symm)
   have HOV := hid hov
   clear hov
   go_wp2_with fail
   refine (trimmed_any wr _ o HNUM.out HSM.out).mono ?_
   rintro e w' ⟨⟨v', rfl, hv'⟩, rfl⟩
   have HV' := hid hv'
   clear hv'
   go_wp2_with fail
   refine (of_any rest (by omega) wr).mono ?_
   rintro e w' ⟨v2, rfl, hv2, hb2⟩
   have HV2 := hid hv2
   have HB2 := hid hb2
   clear hv2 hb2
   go_wp2
   go_ret2
   refine ⟨_, _, rfl, ?_, ?_, HB.out.trans (HB2.out.mono HB.out.size)⟩
   ·rw [← HOV.out.1]; exact HV'.out.keep HB2.out HB2.out.size
   ·rw [← HOV.out.2]; exact HV2.out
  ·obtain rfl : z = (k : Int) := by omega
   clear hz
   have hlt : k < n := by omega
   obtain ⟨ad, x, rfl, had, HX, hcell⟩ := (HR.out.keep HB.out (Nat.le_refl _)).get (k := k) (by rw [← HN.out]; exact hlt)
   have hx9 := HS.out x (List.mem_of_getElem? HX.out)
   have hko : k < o.length := by rw [HO.out]; exact hlt
   obtain ⟨z, hz⟩ : ∃ z, o[k]? = some z := ⟨_, List.getElem?_eq_getElem hko⟩
   have HKO := hid hko
   have hoc := HBL.out.cell hz
   have hof := HBL.out.frozen k
   clear hz hko
   obtain ⟨s, hs⟩ : ∃ s, s = rest * 1000000000 + x := ⟨_, rfl⟩
   obtain ⟨q, hq⟩ : ∃ q, q = s / b := ⟨_, rfl⟩
   obtain ⟨r, hr⟩ : ∃ r, r = s % b := ⟨_, rfl⟩
   have hs9 : s < b * 1000000000 := by omega
   have hq9 : q < 1000000000 := by rw [hq]; exact (Nat.div_lt_iff_lt_mul hb0).2 (by rw [Nat.mul_comm]; exact hs9)
   have hr9 : r < b := by rw [hr]; exact Nat.mod_lt _ hb0
   have hsI : (rest : Int) * 1000000000 + (x : Int) = (s : Int) := by omega
   have hqI : (s : Int) / (b : Int) = (q : Int) := by rw [hq]; simp
   have hrI : (s : Int) % (b : Int) = (r : Int) := by rw [hr]; simp
   have HSS := hid hs
   have HQ := hid hq
   have HRR := hid hr
   clear hs hq hr
   go_wp2
   go_roundw
   case rel =>
    refine ⟨k, r, (k : Int) - 1, o.set k q, by omega, rfl, rfl, by rw [hrI], hr9, by rw [List.length_set]; exact HO.out, HBL.out.put _ rfl, HB.out.setCell (Nat.le_refl _) _, M.small_set' HSM.out hq9, ?_⟩
    rw [M.drop_set HKO.out, M.drop_at HX.out]
    exact M.div_step HV.out HSS.out HQ.out HRR.out
   case measure => simp [intOf]; all_goals omega
theorem wpList_copy {w : World} {ops : Array Oper} {rest : List Oper} {o : Oper} {a : Act} {Q : Exit → Act → World → Prop} (hgd : o.guard = none) (x : Operand)
 (ho : o.op = .call { callee := .builtin .append, args := #[.const (.slice none 0 0), x], argTypes := #[22, 22] })
 (v : Value) (l : List Nat) (hx : a.eval x = v) {C : Nat} (hv : Num w C v l) (hlen : l.length ≤ 1000000000)
 (h : ∀ v' w', Num w' w'.heap.size v' l → Below w.heap.size w w' → wpList Tryz.prog ops Q rest (a.put o.dst v') w') : wpList Tryz.prog ops Q (o :: rest) a w := by
 obtain ⟨i0, hi, hz0, hz1, hz2⟩ := info_parts info_u32
 obtain ⟨A, n, c, rfl, hn, hc, hm, hs, hr⟩ := hv
 rcases A with _ | ad
 ·have hl : l = [] := by
   rcases l with _ | ⟨y, r⟩
   ·rfl
   ·obtain ⟨ad, e, _⟩ := hr (by simp)
    cases e
  subst hl
  have hn0 : n = 0 := hn
  subst hn0
  have hrun : (Builtin.append_ #[22, 22] o.type #[.slice none 0 0, .slice none 0 c]).run Tryz.prog w = .ok (.slice none 0 0) w := by
   simp [Builtin.append_, run_underlying Tryz.underlying22, sizeOf, typeInfo, hi, Builtin.lenOf, Builtin.firstCells]
  refine wpList_plain hgd fun K hK => ?_
  unfold Oper.wp execOp
  have he : a.eval (.const (.slice none 0 0)) = .slice none 0 0 := rfl
  simp only [ho, resolve, invoke, builtin, Sem.run_bind, Sem.run_pure, Result.andThen_ok, List.map_toArray, List.map_cons, List.map_nil, he, hx, hrun]
  exact hK _ _ (h _ _ (Num.nil _ _) (Below.refl _ _))
 ·refine wpList_append_own w hgd (.const (.slice none 0 0)) x 22 ho w.heap.size 97 i0 (.int .u32 0) 1 4 Tryz.underlying22 hi hz0 hz1 hz2 rfl (by decide) (.slice none 0 0) 0 [] rfl (World.ownsRow_nil _ _ _ _) ad n c (l.map fun x : Nat => Value.int .u32 (x : Int)) hx (by simp [hn]) ?_ ?_ (by unfold maxLen; omega) (by omega) (Nat.le_refl _) ?_
  ·intro j u hj
   rw [List.getElem?_map] at hj
   obtain ⟨y, hy, rfl⟩ := Option.map_eq_some_iff.1 hj
   obtain ⟨ad', e, _, hcell⟩ := hr (by rintro rfl; simp at hy)
   obtain rfl := Option.some.inj e
   exact hcell j y hy
  ·intro u hu
   obtain ⟨y, _, rfl⟩ := List.mem_map.1 hu
   rfl
  ·intro v' w' h1 h2 _
   refine h v' w' (Own.num (base := w.heap.size) ⟨?_, hs⟩) ((Below.refl _ _).grown h2 (Nat.le_refl _) (fun k hk => by simp [Value.ownBlock] at hk))
   rw [Nat.zero_add, hn] at h1
   simpa using h1
theorem div_of (w : World) (u v : Value) (l m : List Nat) (hu : Num w w.heap.size u l) (hv : Num w w.heap.size v m) (hlen : Hid (l.length ≤ 100000000))
 (hrow : Hid (2 ≤ (M.nat m).length → M.nv m ≤ M.nv l → ∀ (W : World) (u v : Value), Num W W.heap.size u (M.nat l) → Num W W.heap.size v (M.nat m) →
  Calls Tryz.prog 183 #[u, v] W (Gives2 W (M.limbs (M.nv l / M.nv m)) (M.limbs (M.nv l % M.nv m))))) :
 Calls Tryz.prog 171 #[u, v] w (Gives2 w (M.limbs (M.nv l / M.nv m)) (M.limbs (M.nv l % M.nv m))) := by
 have HU := hid hu
 have HV := hid hv
 have hnl : Hid ((M.nat l).length ≤ 100000000) := by have := M.nat_length l; have := hlen.out; unfold Hid; omega
 clear hu hv
 go_enter Tryz.func171, Tryz.ntmps171
 go_wp2_with fail
 refine (natural_any w u l HU.out).mono ?_
 rintro e w' ⟨⟨u', rfl, hu'⟩, rfl⟩
 have HU' := hid hu'
 clear hu'
 go_wp2_with fail
 refine (natural_any w v m HV.out).mono ?_
 rintro e w' ⟨⟨v', rfl, hv'⟩, rfl⟩
 have HV' := hid hv'
 obtain ⟨A', n', c', rfl, hn', hc', hm', hs', hr'⟩ := hv'
 have hb' : n' ≤ 9223372036854775807 := by unfold maxLen at hm'; omega
 have HN' := hid hn'
 have HR' := hid hr'
 clear hn' hc' hm' hs' hr'
 by_cases h0 : n' = 0
 ·subst h0
  have hm0 : Hid (M.nv m = 0) := by
   have := List.eq_nil_of_length_eq_zero HN'.out.symm
   unfold Hid
   rw [← M.val_nat, this]; rfl
  go_wp2_with (at_builtin; refine wpList_copy rfl (.tmp 20) rfl u' (M.nat l) rfl HU'.out (by have := hnl.out; omega) ?_)
  intro v2 w2 hv2 hb2
  have HV2 := hid hv2
  have HB2 := hid hb2
  clear hv2 hb2
  go_wp2
  go_ret2
  refine ⟨_, _, rfl, ?_, ?_, HB2.out⟩
  ·rw [hm0.out, Nat.div_zero, M.limbs_zero]; exact Num.nil _ _
  ·rw [hm0.out, Nat.mod_zero, M.limbs_nv]; exact HV2.out
 have hz0 : ((n' : Int) == 0) = false := by simpa using h0
 go_wp2_with fail
 refine (compare_any w u' _ _ _ HU'.out HV'.out (M.isNat_nat l) (M.isNat_nat m)).mono ?_
 rw [M.val_nat, M.val_nat]
 rintro e w' ⟨rfl, kd, rfl⟩
 have hbd := below_drewN (Below.refl w.heap.size w) kd
 have HU2 := hid (HU'.out.keep hbd (Nat.le_refl _))
 have HV2 := hid (HV'.out.keep hbd (Nat.le_refl _))
 have HBD := hid hbd
 clear hbd
 by_cases hlt : M.nv l < M.nv m
 ·have HLT := hid hlt
  rw [M.cmp_lt hlt]
  clear hlt
  go_wp2_with (at_builtin; refine wpList_copy rfl (.tmp 20) rfl u' (M.nat l) rfl HU2.out (by have := hnl.out; omega) ?_)
  intro v2 w2 hv2 hb2
  have HV3 := hid hv2
  have HB2 := hid hb2
  clear hv2 hb2
  go_wp2
  go_ret2
  refine ⟨_, _, rfl, ?_, ?_, HBD.out.trans HB2.out⟩
  ·rw [Nat.div_eq_of_lt HLT.out, M.limbs_zero]; exact Num.nil _ _
  ·rw [Nat.mod_eq_of_lt HLT.out, M.limbs_nv]; exact HV3.out
 have hge : 0 ≤ M.cmp (M.nv l) (M.nv m) := by
  rcases Int.lt_or_le (M.cmp (M.nv l) (M.nv m)) 0 with h | h
  ·exact absurd (M.cmp_neg.1 h) hlt
  ·exact h
 obtain ⟨z, hz⟩ : ∃ z, z = M.cmp (M.nv l) (M.nv m) := ⟨_, rfl⟩
 rw [← hz] at hge ⊢
 have HLT := hid hlt
 clear hz hlt
 by_cases h1 : n' = 1
 ·subst h1
  obtain ⟨ad, x, rfl, had, HX, hcell⟩ := HR'.out.get (k := 0) (by rw [← HN'.out]; omega)
  rw [Addr.add_zero'] at hcell
  have hm1 : Hid (M.nv m = x ∧ 0 < x ∧ x < 1000000000) := by
   have h1 := M.small_iff.1 (M.small_nat m) x (List.mem_of_getElem? HX.out)
   have h2 := M.last_nat m
   rw [List.getLast?_eq_getElem?, ← HN'.out, HX.out] at h2
   have h3 := HN'.out
   have h4 := HX.out
   unfold Hid
   rw [← M.val_nat]
   rcases hq : M.nat m with _ | ⟨y, r⟩
   ·rw [hq] at h4; simp at h4
   ·rw [hq] at h4 h3
    simp at h4 h3
    subst h4 h3
    simp [M.val]
    refine ⟨?_, h1⟩
    rcases Nat.eq_zero_or_pos y with h | h
    ·subst h; exact absurd rfl h2
    ·exact h
  go_wp2_with fail
  refine (byLimb_any (w.drewN kd) u' (M.nat l) x HU2.out (M.small_nat l) hnl.out hm1.out.2.1 hm1.out.2.2).mono ?_
  rw [M.val_nat, ← hm1.out.1]
  rintro e w' ⟨q, r, rfl, hq, hr, hb2⟩
  have HQ := hid hq
  have HRR := hid hr
  have HB2 := hid (HBD.out.trans hb2)
  clear hq hr hb2
  go_wp2
  go_ret2
  exact ⟨_, _, rfl, HQ.out, HRR.out, HB2.out⟩
 ·have hz1 : ((n' : Int) == 1) = false := by simp; omega
  go_wp2_with fail
  refine (hrow.out (by rw [← HN'.out]; omega) (by have := HLT.out; omega) _ _ _ HU2.out HV2.out).mono ?_
  rintro e w' ⟨q, r, rfl, hq, hr, hb2⟩
  have HQ := hid hq
  have HRR := hid hr
  have HB2 := hid (HBD.out.trans hb2)
  clear hq hr hb2
  go_wp2
  go_ret2
  exact ⟨_, _, rfl, HQ.out, HRR.out, HB2.out⟩
end Go.Proofs.YtkhmgdfhggejaaaGreatDoor
