/-
  Layer 10, the reference: an application's Sig.
-/
import Derived.Test.YtaoboilkpgphaaaGreatDoorKSgs
import Derived.Test.YtaoboilkpgphaaaGreatDoorQTHeld
import Derived.Maps.AppendAt
namespace Go.Proofs.YtaoboilkpgphaaaGreatDoor.Q
set_option linter.unusedSimpArgs false
set_option linter.unusedVariables false
open Go.RowKit

theorem kshape {w : World} {base : Nat} {e : TypeId} {size : Nat} {v : Value} {n : Nat} {xs : List Value} (h : w.ownsRow base e size v n xs) : ∃ A c, v = .slice A n c ∧ n ≤ c ∧ c ≤ maxLen := by
 rcases h.2 with ⟨rfl, rfl⟩ | ⟨g, cap', cur, rfl, h3, h4, h5, h6, _⟩
 ·exact ⟨none, 0, rfl, Nat.le_refl _, Nat.zero_le _⟩
 ·exact ⟨_, _, rfl, h5, h6⟩
theorem kgrown {w w' : World} {row : Option Nat} (h : w.grownBy w' row) : Kept row.toList w w' :=
 ⟨⟨h.os, h.tape, h.output, h.size, fun k hk => absurd hk (Nat.not_lt_zero _)⟩, fun k hk hn => h.block k hk fun e => hn (by rw [← e]; simp)⟩
theorem kexec_app {P : Program} {w w' : World} {v u v' : Value} {o : Oper} {a : Act} {t : TypeId} (s x : Operand) (ho : o.op = .call { callee := .builtin .append, args := #[s, x], argTypes := #[t, t] }) (hs : a.eval s = v) (hx : a.eval x = u)
 (h : (Builtin.append_ #[t, t] o.type #[v, u]).run P w = .ok v' w') : (execOp a.eval o).run P w = .ok (.value v') w' := by
 unfold execOp
 simp only [ho, resolve, invoke, builtin, Sem.run_bind, Sem.run_pure, Result.andThen_ok, List.map_toArray, List.map_cons, List.map_nil, hs, hx, h]
theorem kframe {w w' : World} {base size n : Nat} {e : TypeId} {v : Value} {xs : List Value} (h : w.ownsRow base e size v n xs) (hb : ∀ b, base ≤ b → b < w.heap.size → w'.heap[b]? = w.heap[b]?) : w'.ownsRow base e size v n xs := by
 obtain ⟨hl, h2⟩ := h
 refine ⟨hl, h2.imp id ?_⟩
 rintro ⟨g, cap, cur, h3, h4, h5, h6⟩
 exact ⟨g, cap, cur, h3, h4, by rw [hb g h4 (Array.getElem?_eq_some_iff.1 h5).1]; exact h5, h6⟩
theorem kown_base {w : World} {base size n : Nat} {e : TypeId} {v : Value} {xs : List Value} (h : w.ownsRow base e size v n xs) {b : Nat} (hb : b ∈ v.ownBlock.toList) : base ≤ b := by
 simp at hb
 exact (World.ownsRow.lt h b hb).1
/-- A row of ints of the call's own. -/
def OwnI (base : Nat) (w : World) (v : Value) (l : List Int) : Prop := w.ownsRow base 3 1 v l.length (l.map fun x : Int => Value.int .i64 x)
theorem OwnI.nil (base : Nat) (w : World) : OwnI base w (.slice none 0 0) [] := World.ownsRow_nil w base _ 1
theorem OwnI.frame {base : Nat} {w w' : World} {v : Value} {l : List Int} (h : OwnI base w v l) (hb : ∀ b, base ≤ b → b < w.heap.size → w'.heap[b]? = w.heap[b]?) : OwnI base w' v l := kframe h hb
theorem OwnI.ints {base : Nat} {w : World} {v : Value} {l : List Int} (h : OwnI base w v l) : Ints w l v := by
 have hh := h
 obtain ⟨hl, h3⟩ := h
 rcases h3 with ⟨rfl, h0⟩ | ⟨b, cap, cur, rfl, hb, hc, hc1, hm, _, _⟩
 ·obtain rfl : l = [] := List.eq_nil_of_length_eq_zero h0
  exact ⟨none, 0, 0, rfl, rfl, Nat.le_refl _, Nat.zero_le _, fun h => absurd rfl h⟩
 ·refine ⟨_, _, _, rfl, rfl, hc1, hm, fun hn => ⟨_, rfl, (Array.getElem?_eq_some_iff.1 hc).1, fun k x hk => ?_⟩⟩
  exact World.ownsRow.cells hh (g := b) rfl _ _ (by rw [List.getElem?_map, hk]; rfl)
theorem info_int8 : (Tryz.prog.info? 3).map (fun i => (i.zero, i.size, i.bytes)) = some (some (.int .i64 0), 1, 8) := by kernel_rfl
theorem appI_run {base : Nat} {w : World} {v : Value} {l : List Int} {x : Int} {gL : Nat} {tL : TypeId} (h : OwnI base w v l) (hL : Box w gL #[.int .i64 x] tL) (hlen : l.length + 1 ≤ 1000000000) (hbase : base ≤ w.heap.size) (ty : TypeId) :
 ∃ v' w', (Builtin.append_ #[22, 22] ty #[v, .slice (some ⟨gL, 0, none⟩) 1 1]).run Tryz.prog w = .ok v' w' ∧ OwnI base w' v' (l ++ [x]) ∧ Below base w w' ∧ Kept v.ownBlock.toList w w' := by
 obtain ⟨i0, hi, hz0, hz1, hz2⟩ := info_parts info_int8
 obtain ⟨v', w', hrun, ho', hg, _, hv'⟩ := run_append_own_at (P := Tryz.prog) w base 22 ty 3 i0 _ 1 8 Tryz.underlying22 hi hz0 hz1 hz2 rfl (by decide) v l.length _ h ⟨gL, 0, none⟩ 1 1 [.int .i64 x] rfl (by
  intro j u hj
  rw [Addr.add_lit, Nat.zero_add]
  rcases j with _ | j
  ·simp at hj; subst hj; exact hL.k 0
  ·simp at hj) (by intro u hu; simp at hu; subst hu; rfl) (by unfold maxLen; omega) (by omega) hbase
 exact ⟨v', w', hrun, by unfold OwnI; rw [List.length_append, List.map_append]; exact ho', (Below.refl _ _).grown hg hbase fun k hk => (World.ownsRow.lt h k hk).1, kgrown hg⟩
namespace M
def sigOf (t : Tm) : Sg := ⟨t.name, t.kids.map Tm.sort, t.sort⟩
end M
/-- A Sig that a call gives. -/
def GivesSg (w : World) (s : M.Sg) (e : Ending) (w' : World) : Prop := ∃ A c, e = .returned (sgv s.name A s.args.length c s.ret) ∧ Ints w' s.args (.slice A s.args.length c) ∧ Ext w w'
theorem kbelow_box {w w' : World} {B g : Nat} {cs : Array Value} {T : TypeId} (h : Box w g cs T) (hb : Below B w w') (hg : g < B) : Box w' g cs T := (hb.block g hg).trans h
theorem box3b {w : World} {k : Nat} {x0 x1 x2 : Value} {T : TypeId} (h : Box w k #[x0, x1, x2] T) : w.cell? ⟨k, 0, none⟩ = some x0 ∧ w.cell? ⟨k, 1, none⟩ = some x1 ∧ w.cell? ⟨k, 2, none⟩ = some x2 := ⟨h.k 0, h.k 1, h.k 2⟩
theorem free3 {w : World} {k : Nat} {x0 x1 x2 : Value} {T : TypeId} (h : Box w k #[x0, x1, x2] T) : w.frozen? ⟨k, 0, none⟩ = false ∧ w.frozen? ⟨k, 1, none⟩ = false ∧ w.frozen? ⟨k, 2, none⟩ = false := ⟨h.free 0, h.free 1, h.free 2⟩
/-- What the loop keeps. -/
def RoundSg (w : World) (op : Int) (g : Bool) (N : Option Addr) (nn nc : Nat) (nm : List UInt8) (so : Int) (A : Option Addr) (n c : Nat) (l : List Int) (iv : Value) (wr : World) : Prop :=
 Box wr w.heap.size #[.int .i64 op, .bool g, .slice N nn nc, str nm, .int .i64 so, .slice A n c] 33 ∧ Box wr (w.heap.size + 1) #[.string ⟨#[]⟩, .slice none 0 0, .int .i64 0] 24 ∧
 Box wr (w.heap.size + 2) #[str nm, iv, .int .i64 so] 24 ∧ OwnI (w.heap.size + 3) wr iv l ∧ Ext w wr
end Go.Proofs.YtaoboilkpgphaaaGreatDoor.Q
