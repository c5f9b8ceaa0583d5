/-
  Words for rows of limbs in memory: 'Num w C v l': the slice value v reads as the row l of 32-bit numbers, in a block below C.
-/
import Derived.Test.YtljjijcmoafndaaRows
import Derived.Test.YtljjijcmoafndaaMath
import Derived.WalkKit
import Derived.Handy
import Derived.Laws.OwnMore
import Derived.Deep.Draws
import Derived.Deep.QuietTactic
import Derived.BigQuiet
import Derived.Outline
namespace Go.Proofs.Ytljjijcmoafndaa
set_option linter.unusedSimpArgs false
set_option linter.unusedVariables false
open Go.RowKit

theorem hid {p : Prop} (h : p) : Hid p := h

theorem ret_bool {a b : Bool} (h : a = b) : Ending.returned (.bool a) = Ending.returned (.bool b) := by rw [h]
theorem ret_int {k : IntKind} {a b : Int} (h : a = b) : Ending.returned (.int k a) = Ending.returned (.int k b) := by rw [h]
theorem addr_block (a : Addr) (n : Nat) : (a.add n).block = a.block := by unfold Addr.add; split <;> rfl

/-- The cells of a row from an address on. -/
def Cells (w : World) (ad : Addr) (l : List Nat) : Prop := ∀ (i x : Nat), l[i]? = some x → w.cell? (ad.add i) = some (.int .u32 (x : Int))
def Row (w : World) (C : Nat) (A : Option Addr) (l : List Nat) : Prop := l ≠ [] → ∃ ad, A = some ad ∧ ad.block < C ∧ Cells w ad l
def Num (w : World) (C : Nat) (v : Value) (l : List Nat) : Prop :=
  ∃ A n c, v = .slice A n c ∧ n = l.length ∧ n ≤ c ∧ c ≤ maxLen ∧ (∀ x ∈ l, x < 4294967296) ∧ Row w C A l

theorem Row.at_ {w : World} {C : Nat} {A : Option Addr} {l : List Nat} (h : Row w C A l) {k : Nat} (hk : k < l.length) :
    ∃ ad, A = some ad ∧ ad.block < C ∧ Cells w ad l := h (by intro e; subst e; simp at hk)
theorem Cells.get {w : World} {ad : Addr} {l : List Nat} (h : Cells w ad l) {k : Nat} (hk : k < l.length) : w.cell? (ad.add k) = some (.int .u32 (l[k] : Int)) :=
  h k _ (List.getElem?_eq_getElem hk)
theorem Row.get {w : World} {C : Nat} {A : Option Addr} {l : List Nat} (h : Row w C A l) {k : Nat} (hk : k < l.length) :
    ∃ ad x, A = some ad ∧ ad.block < C ∧ Hid (l[k]? = some x) ∧ w.cell? (ad.add k) = some (.int .u32 (x : Int)) := by
  obtain ⟨ad, e, hC, hc⟩ := h.at_ hk
  exact ⟨ad, l[k], e, hC, List.getElem?_eq_getElem hk, hc.get hk⟩
theorem Cells.keep {w w' : World} {ad : Addr} {l : List Nat} {C : Nat} (h : Cells w ad l) (hC : ad.block < C) (hb : Below C w w') : Cells w' ad l := by
  intro i x hx
  rw [hb.cell (by rw [addr_block]; exact hC)]; exact h i x hx
theorem Row.keep {w w' : World} {C D : Nat} {A : Option Addr} {l : List Nat} (h : Row w C A l) (hb : Below C w w') (hD : C ≤ D) : Row w' D A l := by
  intro hn
  obtain ⟨ad, e, hlt, hc⟩ := h hn
  exact ⟨ad, e, by omega, hc.keep hlt hb⟩
theorem Num.keep {w w' : World} {C D : Nat} {v : Value} {l : List Nat} (h : Num w C v l) (hb : Below C w w') (hD : C ≤ D) : Num w' D v l := by
  obtain ⟨A, n, c, rfl, hn, hc, hm, hs, hr⟩ := h
  exact ⟨A, n, c, rfl, hn, hc, hm, hs, hr.keep hb hD⟩
theorem Num.slice {w : World} {C : Nat} {v : Value} {l : List Nat} (h : Num w C v l) : ∃ A n c, v = .slice A n c := by
  obtain ⟨A, n, c, e, _⟩ := h
  exact ⟨A, n, c, e⟩
theorem Num.more {w : World} {C D : Nat} {v : Value} {l : List Nat} (h : Num w C v l) (hD : C ≤ D) : Num w D v l := h.keep (Below.refl _ _) hD
theorem Num.nil (w : World) (C : Nat) : Num w C (.slice none 0 0) [] := ⟨none, 0, 0, rfl, rfl, Nat.le_refl _, Nat.zero_le _, by simp, fun h => absurd rfl h⟩
theorem Row.take {w : World} {C : Nat} {A : Option Addr} {l : List Nat} (h : Row w C A l) (k : Nat) : Row w C A (l.take k) := by
  intro hn
  obtain ⟨ad, e, hlt, hc⟩ := h (by rintro rfl; simp at hn)
  refine ⟨ad, e, hlt, fun i x hx => hc i x ?_⟩
  rw [List.getElem?_take] at hx
  split at hx
  · exact hx
  · cases hx
theorem below_drewN {B : Nat} {a w : World} (h : Below B a w) (n : Nat) : Below B a (w.drewN n) := ⟨h.os, h.tape, h.output, h.size, h.block⟩

/-- A row that the call itself has made and appends to. -/
def Own (base : Nat) (w : World) (v : Value) (l : List Nat) : Prop := w.ownsRow base 56 1 v l.length (l.map fun x : Nat => Value.int .u32 (x : Int)) ∧ ∀ x ∈ l, x < 4294967296
theorem info_u32 : (Try.prog.info? 56).map (fun i => (i.zero, i.size, i.bytes)) = some (some (.int .u32 0), 1, 4) := by kernel_rfl

theorem Own.num {base : Nat} {w : World} {v : Value} {l : List Nat} (h : Own base w v l) : Num w w.heap.size v l := by
  obtain ⟨h, hs⟩ := h
  have hh := h
  obtain ⟨hl, h2⟩ := h
  rcases h2 with ⟨rfl, h0⟩ | ⟨g, cap, cur, rfl, hb, hg, hc, hm, _, _⟩
  · have : l = [] := List.eq_nil_of_length_eq_zero h0
    subst this; exact Num.nil _ _
  · refine ⟨_, _, _, rfl, rfl, hc, hm, hs, fun hn => ⟨_, rfl, (Array.getElem?_eq_some_iff.1 hg).1, fun i x hx => ?_⟩⟩
    exact hh.cells (g := g) rfl i _ (by rw [List.getElem?_map, hx]; rfl)
theorem Own.made (w : World) (cur : Array Value) (cap : Nat) (base : Nat) (hb : base ≤ w.heap.size) (hm : cap ≤ maxLen) (hs : cur.size = cap) : Own base (w.alloc (.cells cur 56)) (.slice (some ⟨w.heap.size, 0, none⟩) 0 cap) [] :=
  ⟨World.ownsRow_made w cur cap hb hm (by rw [hs, Nat.mul_one]), by simp⟩
theorem Own.nil (w : World) (base : Nat) : Own base w (.slice none 0 0) [] := ⟨World.ownsRow_nil w base _ 1, by simp⟩
theorem Own.alloc {base : Nat} {w : World} {v : Value} {l : List Nat} (h : Own base w v l) (o : Obj) : Own base (w.alloc o) v l := ⟨h.1.alloc o, h.2⟩
theorem Own.grow {base : Nat} {w w' : World} {v : Value} {l : List Nat} (h : Own base w v l) (hb : Below w.heap.size w w') : Own base w' v l :=
  ⟨h.1.kept (row := none) ⟨hb.os, hb.tape, hb.output, hb.size, fun k hk _ => hb.block k hk⟩ (by cases v.ownBlock <;> simp), h.2⟩
theorem Own.below {base : Nat} {w w' : World} {v : Value} {l : List Nat} (h : Own base w v l) (hg : w.grownBy w' v.ownBlock) {B : Nat} (hB : B ≤ base) (hb : base ≤ w.heap.size) : Below B w w' :=
  (Below.refl _ _).grown hg (by omega) fun k hk => by have := (h.1.lt k hk).1; omega

def zeros (c : Nat) : Array Value := (List.replicate c (Value.int .u32 0)).toArray
theorem zeros_size (c : Nat) : (zeros c).size = c := by simp [zeros]
theorem made_zeros (c : Nat) : madeCells (Value.int .u32 0).cells (c * 1) = zeros c := by
  apply Array.ext'
  rw [zeros, Nat.mul_one]
  apply List.ext_getElem?
  intro i
  simp [madeCells, Value.cells, List.getElem?_replicate, Nat.mod_one]
  by_cases h : i < c <;> simp [h]
theorem make_u32 (kl kc : IntKind) (l c : Int) (a b : Nat) (hl : l = (a : Int)) (hc : c = (b : Int)) (hlc : a ≤ b) (hb : b ≤ 1000000000) (w : World) :
    (Instr.makeSlice 22 (.int kl l) (.int kc c)).run Try.prog w = .ok (.slice (some ⟨w.heap.size, 0, none⟩) a b) (w.alloc (.cells (zeros b) 56)) := by
  obtain ⟨i0, hi, hz0, hz1, hz2⟩ := info_parts info_u32
  subst hl hc
  have := run_make (P := Try.prog) w 22 56 i0 (.int .u32 0) Try.underlying22 hi hz0 kl kc (a : Int) (b : Int) (by omega) (by omega) (by rw [hz2]; omega) (by omega)
  rw [this, hz1, Int.toNat_natCast, Int.toNat_natCast, made_zeros]

theorem wpList_app1 {w : World} {ops : Array Oper} {rest : List Oper} {o : Oper} {a : Act} {Q : Exit → Act → World → Prop} (hgd : o.guard = none) (s x : Operand)
    (ho : o.op = .call { callee := .builtin .append, args := #[s, x], argTypes := #[22, 22] })
    (base : Nat) (v : Value) (l : List Nat) (hs : a.eval s = v) (hown : Own base w v l) (g : Nat) (y : Nat) (hx : a.eval x = .slice (some ⟨g, 0, none⟩) 1 1)
    (hc : w.cell? ⟨g, 0, none⟩ = some (.int .u32 (y : Int))) (hy : y < 4294967296) (hlen : l.length + 1 ≤ 1000000000) (hbase : base ≤ w.heap.size)
    (h : ∀ v' w', Own base w' v' (l ++ [y]) → w.grownBy w' v.ownBlock → wpList Try.prog ops Q rest (a.put o.dst v') w') : wpList Try.prog ops Q (o :: rest) a w := by
  obtain ⟨i0, hi, hz0, hz1, hz2⟩ := info_parts info_u32
  refine wpList_append_own w hgd s x 22 ho base 56 i0 (.int .u32 0) 1 4 Try.underlying22 hi hz0 hz1 hz2 rfl (by decide) v l.length _ hs hown.1 ⟨g, 0, none⟩ 1 1 [.int .u32 (y : Int)] hx rfl ?_ ?_ (by unfold maxLen; omega) (by omega) hbase ?_
  · intro j u hj
    rcases j with _ | j
    · simp at hj; subst hj; rw [Addr.add_lit]; exact hc
    · simp at hj
  · intro u hu; simp at hu; subst hu; rfl
  · intro v' w' h1 h2 _
    refine h v' w' ⟨?_, ?_⟩ h2
    · simpa using h1
    · intro t ht
      rw [List.mem_append] at ht
      rcases ht with ht | ht
      · exact hown.2 t ht
      · simp at ht; subst ht; exact hy

/-- A block of the call's own, known whole: numbers of 32 bits. -/
def Blk (w : World) (g : Nat) (l : List Nat) : Prop := w.heap[g]? = some (.cells (l.map fun x : Nat => Value.int .u32 (x : Int)).toArray 56 (0, 0))
theorem Blk.made (w : World) (n : Nat) : Blk (w.alloc (.cells (zeros n) 56)) w.heap.size (List.replicate n 0) := by
  unfold Blk
  rw [heap_alloc_new w _]
  simp [zeros]
theorem Blk.lt {w : World} {g : Nat} {l : List Nat} (h : Blk w g l) : g < w.heap.size := (Array.getElem?_eq_some_iff.1 h).1
theorem Blk.cell {w : World} {g : Nat} {l : List Nat} (h : Blk w g l) {i x : Nat} (hx : l[i]? = some x) : w.cell? ⟨g, i, none⟩ = some (.int .u32 (x : Int)) := by
  rw [cell_of_row w g i _ 56 (0, 0) h]
  simp [hx]
theorem Blk.frozen {w : World} {g : Nat} {l : List Nat} (h : Blk w g l) (i : Nat) : w.frozen? ⟨g, i, none⟩ = false := by
  unfold Blk at h
  simp [World.frozen?, h]
theorem Blk.set_ {w : World} {g : Nat} {l : List Nat} (h : Blk w g l) (i x : Nat) : Blk (w.setCell ⟨g, i, none⟩ (.int .u32 (x : Int))) g (l.set i x) := by
  unfold Blk at h ⊢
  simp [World.setCell, Array.getElem?_modify, h, List.map_set]
theorem Blk.put {w : World} {g : Nat} {l : List Nat} (h : Blk w g l) (i : Nat) {x : Nat} {z : Int} (hz : z = (x : Int)) : Blk (w.setCell ⟨g, i, none⟩ (.int .u32 z)) g (l.set i x) := by
  subst hz; exact h.set_ i x
theorem Blk.grow {w w' : World} {g : Nat} {l : List Nat} (h : Blk w g l) (hb : Below w.heap.size w w') : Blk w' g l := (hb.block g h.lt).trans h
theorem Blk.far {w : World} {g : Nat} {l : List Nat} (h : Blk w g l) {p : Addr} (hp : g ≠ p.block) (u : Value) : Blk (w.setCell p u) g l := (Below.heap_setCell w p u g hp).trans h
theorem Blk.num {w : World} {g : Nat} {l : List Nat} (h : Blk w g l) (hs : ∀ x ∈ l, x < 4294967296) (hm : l.length ≤ maxLen) {n : Nat} (hn : n = l.length) : Num w w.heap.size (.slice (some ⟨g, 0, none⟩) n n) l :=
  ⟨_, n, n, rfl, hn, Nat.le_refl _, by omega, hs, fun _ => ⟨_, rfl, h.lt, fun i x hx => by rw [Addr.add_lit, Nat.zero_add]; exact h.cell hx⟩⟩

theorem Blk.num_take {w : World} {g : Nat} {l : List Nat} (h : Blk w g l) (hs : ∀ x ∈ l, x < 4294967296) (hm : l.length ≤ maxLen) {n : Nat} (hn : n = l.length) {j : Nat} (hj : j ≤ n) : Num w w.heap.size (.slice (some ⟨g, 0, none⟩) j n) (l.take j) :=
  ⟨_, j, n, rfl, by rw [List.length_take]; omega, hj, by omega, fun x hx => hs x (List.mem_of_mem_take hx), fun hne => ⟨_, rfl, h.lt, fun i x hx => by
    rw [List.getElem?_take] at hx
    split at hx
    · rw [Addr.add_lit, Nat.zero_add]; exact h.cell hx
    · cases hx⟩⟩

/-- What a call that gives a row comes back with: the row, and nothing that was there has turned. -/
def Gives (w : World) (l : List Nat) (e : Ending) (w' : World) : Prop := ∃ v, e = .returned v ∧ Num w' w'.heap.size v l ∧ Below w.heap.size w w'
end Go.Proofs.Ytljjijcmoafndaa
