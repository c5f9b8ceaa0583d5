/-
  Contracts: what layer 10's laws make and ask of their own: num, con, fewSig; the reference's SameSig.
-/
import Derived.Test.YtkhmgdfhggejaaaGreatDoorWJKC
import Derived.Maps.AppendAt
namespace Go.Proofs.YtkhmgdfhggejaaaGreatDoor.Q
set_option linter.unusedSimpArgs false
set_option linter.unusedVariables false
open Go.RowKit
namespace M
end M
namespace M
end M
def SgAt (w : World) (s : M.Sg) (a : Addr) : Prop := ∃ A n c, (w.cell? a = some (str s.name) ∧ w.cell? (a.add 1) = some (.slice A n c) ∧ w.cell? (a.add 2) = some (.int .i64 s.ret)) ∧ Ints w s.args (.slice A n c)
def Sgs (w : World) (l : List M.Sg) (v : Value) : Prop := ∃ A n c, v = .slice A n c ∧ n = l.length ∧ n ≤ c ∧ c ≤ maxLen ∧ (l ≠ [] → ∃ ad, A = some ad ∧ ad.block < w.heap.size ∧ ∀ k s, l[k]? = some s → SgAt w s (ad.add (k * 3)))
theorem SgAt.up {w w' : World} {s : M.Sg} {a : Addr} (h : SgAt w s a) (e : Ext w w') : SgAt w' s a := by
 obtain ⟨A, n, c, ⟨h1, h2, h3⟩, h4⟩ := h
 exact ⟨A, n, c, ⟨e.cell h1, e.cell h2, e.cell h3⟩, h4.up e⟩
theorem Sgs.up {w w' : World} {l : List M.Sg} {v : Value} (h : Sgs w l v) (e : Ext w w') : Sgs w' l v := by
 obtain ⟨A, n, c, h1, h2, h3, h4, h5⟩ := h
 refine ⟨A, n, c, h1, h2, h3, h4, fun hne => ?_⟩
 obtain ⟨ad, ha, hb, hc⟩ := h5 hne
 exact ⟨ad, ha, Nat.lt_of_lt_of_le hb e.size, fun k s hk => (hc k s hk).up e⟩
theorem Sgs.nil (w : World) : Sgs w [] (.slice none 0 0) := ⟨none, 0, 0, rfl, rfl, Nat.le_refl _, Nat.zero_le _, fun h => absurd rfl h⟩
theorem Sgs.shape {w : World} {l : List M.Sg} {v : Value} (h : Sgs w l v) : ∃ A c, v = .slice A l.length c := by
 obtain ⟨A, n, c, h1, h2, _⟩ := h
 exact ⟨A, c, by rw [h1, h2]⟩
theorem Sgs.le {w : World} {A : Option Addr} {n c : Nat} {l : List M.Sg} (h : Sgs w l (.slice A n c)) : n = l.length ∧ n ≤ c ∧ c ≤ 9223372036854775807 := by
 obtain ⟨A', n', c', e, h2, h3, h4, _⟩ := h
 injection e with e1 e2 e3
 subst e1 e2 e3
 exact ⟨h2, h3, by unfold maxLen at h4; omega⟩
theorem Sgs.get {w : World} {A : Option Addr} {n c : Nat} {l : List M.Sg} (h : Sgs w l (.slice A n c)) {k : Nat} (hk : k < n) :
 ∃ ad s B d, A = some ad ∧ l[k]? = some s ∧ (w.cell? (ad.add (k * 3)) = some (str s.name) ∧ w.cell? ⟨(ad.add (k * 3)).block, (ad.add (k * 3)).off + 1, none⟩ = some (.slice B s.args.length d) ∧ w.cell? ⟨(ad.add (k * 3)).block, (ad.add (k * 3)).off + 2, none⟩ = some (.int .i64 s.ret))
  ∧ IsSg w s (sgv s.name B s.args.length d s.ret) := by
 obtain ⟨A', n', c', e, h2, h3, h4, h5⟩ := h
 injection e with e1 e2 e3
 subst e1 e2 e3
 obtain ⟨ad, ha, hb, hc⟩ := h5 (by intro e; subst e; simp at h2; omega)
 have hx : l[k]? = some l[k] := List.getElem?_eq_getElem (by omega)
 obtain ⟨B, m, d, ⟨c0, c1, c2⟩, hi⟩ := hc k _ hx
 have hm := hi.le.1
 subst hm
 exact ⟨ad, _, B, d, ha, hx, ⟨c0, c1, c2⟩, B, d, rfl, hi⟩
theorem kshape {w : World} {base : Nat} {e : TypeId} {size : Nat} {v : Value} {n : Nat} {xs : List Value} (h : w.ownsRow base e size v n xs) : ∃ A c, v = .slice A n c ∧ n ≤ c ∧ c ≤ maxLen := by
 rcases h.2 with ⟨rfl, rfl⟩ | ⟨g, cap', cur, rfl, h3, h4, h5, h6, _⟩
 ·exact ⟨none, 0, rfl, Nat.le_refl _, Nat.zero_le _⟩
 ·exact ⟨_, _, rfl, h5, h6⟩
theorem kgrown {w w' : World} {row : Option Nat} (h : w.grownBy w' row) : Kept row.toList w w' :=
 ⟨⟨h.os, h.tape, h.output, h.size, fun k hk => absurd hk (Nat.not_lt_zero _)⟩, fun k hk hn => h.block k hk fun e => hn (by rw [← e]; simp)⟩
theorem kexec_app {P : Program} {w w' : World} {v u v' : Value} {o : Oper} {a : Act} {t : TypeId} (s x : Operand) (ho : o.op = .call { callee := .builtin .append, args := #[s, x], argTypes := #[t, t] }) (hs : a.eval s = v) (hx : a.eval x = u)
 (h : (Builtin.append_ #[t, t] o.type #[v, u]).run P w = .ok v' w') : (execOp a.eval o).run P w = .ok (.value v') w' := by
 unfold execOp
 simp only [ho, resolve, invoke, builtin, Sem.run_bind, Sem.run_pure, Result.andThen_ok, List.map_toArray, List.map_cons, List.map_nil, hs, hx, h]
theorem kframe {w w' : World} {base size n : Nat} {e : TypeId} {v : Value} {xs : List Value} (h : w.ownsRow base e size v n xs) (hb : ∀ b, base ≤ b → b < w.heap.size → w'.heap[b]? = w.heap[b]?) : w'.ownsRow base e size v n xs := by
 obtain ⟨hl, h2⟩ := h
 refine ⟨hl, h2.imp id ?_⟩
 rintro ⟨g, cap, cur, h3, h4, h5, h6⟩
 exact ⟨g, cap, cur, h3, h4, by rw [hb g h4 (Array.getElem?_eq_some_iff.1 h5).1]; exact h5, h6⟩
theorem kown_base {w : World} {base size n : Nat} {e : TypeId} {v : Value} {xs : List Value} (h : w.ownsRow base e size v n xs) {b : Nat} (hb : b ∈ v.ownBlock.toList) : base ≤ b := by
 simp at hb
 exact (World.ownsRow.lt h b hb).1
def OwnI (base : Nat) (w : World) (v : Value) (l : List Int) : Prop := w.ownsRow base 3 1 v l.length (l.map fun x : Int => Value.int .i64 x)
theorem OwnI.nil (base : Nat) (w : World) : OwnI base w (.slice none 0 0) [] := World.ownsRow_nil w base _ 1
theorem OwnI.frame {base : Nat} {w w' : World} {v : Value} {l : List Int} (h : OwnI base w v l) (hb : ∀ b, base ≤ b → b < w.heap.size → w'.heap[b]? = w.heap[b]?) : OwnI base w' v l := kframe h hb
theorem OwnI.ints {base : Nat} {w : World} {v : Value} {l : List Int} (h : OwnI base w v l) : Ints w l v := by
 have hh := h
 obtain ⟨hl, h3⟩ := h
 rcases h3 with ⟨rfl, h0⟩ | ⟨b, cap, cur, rfl, hb, hc, hc1, hm, _, _⟩
 ·obtain rfl : l = [] := List.eq_nil_of_length_eq_zero h0
  exact ⟨none, 0, 0, rfl, rfl, Nat.le_refl _, Nat.zero_le _, fun h => absurd rfl h⟩
 ·refine ⟨_, _, _, rfl, rfl, hc1, hm, fun hn => ⟨_, rfl, (Array.getElem?_eq_some_iff.1 hc).1, fun k x hk => ?_⟩⟩
  exact World.ownsRow.cells hh (g := b) rfl _ _ (by rw [List.getElem?_map, hk]; rfl)
theorem info_int8 : (Tryz.prog.info? 3).map (fun i => (i.zero, i.size, i.bytes)) = some (some (.int .i64 0), 1, 8) := by kernel_rfl
theorem appI_run {base : Nat} {w : World} {v : Value} {l : List Int} {x : Int} {gL : Nat} {tL : TypeId} (h : OwnI base w v l) (hL : Box w gL #[.int .i64 x] tL) (hlen : l.length + 1 ≤ 1000000000) (hbase : base ≤ w.heap.size) (ty : TypeId) :
 ∃ v' w', (Builtin.append_ #[50, 50] ty #[v, .slice (some ⟨gL, 0, none⟩) 1 1]).run Tryz.prog w = .ok v' w' ∧ OwnI base w' v' (l ++ [x]) ∧ Below base w w' ∧ Kept v.ownBlock.toList w w' := by
 obtain ⟨i0, hi, hz0, hz1, hz2⟩ := info_parts info_int8
 obtain ⟨v', w', hrun, ho', hg, _, hv'⟩ := run_append_own_at (P := Tryz.prog) w base 50 ty 3 i0 _ 1 8 Tryz.underlying50 hi hz0 hz1 hz2 rfl (by decide) v l.length _ h ⟨gL, 0, none⟩ 1 1 [.int .i64 x] rfl (by
  intro j u hj
  rw [Addr.add_lit, Nat.zero_add]
  rcases j with _ | j
  ·simp at hj; subst hj; exact hL.k 0
  ·simp at hj) (by intro u hu; simp at hu; subst hu; rfl) (by unfold maxLen; omega) (by omega) hbase
 exact ⟨v', w', hrun, by unfold OwnI; rw [List.length_append, List.map_append]; exact ho', (Below.refl _ _).grown hg hbase fun k hk => (World.ownsRow.lt h k hk).1, kgrown hg⟩
namespace M
def sigOf (t : Tm) : Sg := ⟨t.name, t.kids.map Tm.sort, t.sort⟩
end M
def GivesSg (w : World) (s : M.Sg) (e : Ending) (w' : World) : Prop := ∃ A c, e = .returned (sgv s.name A s.args.length c s.ret) ∧ Ints w' s.args (.slice A s.args.length c) ∧ Ext w w'
theorem box3b {w : World} {k : Nat} {x0 x1 x2 : Value} {T : TypeId} (h : Box w k #[x0, x1, x2] T) : w.cell? ⟨k, 0, none⟩ = some x0 ∧ w.cell? ⟨k, 1, none⟩ = some x1 ∧ w.cell? ⟨k, 2, none⟩ = some x2 := ⟨h.k 0, h.k 1, h.k 2⟩
theorem free3 {w : World} {k : Nat} {x0 x1 x2 : Value} {T : TypeId} (h : Box w k #[x0, x1, x2] T) : w.frozen? ⟨k, 0, none⟩ = false ∧ w.frozen? ⟨k, 1, none⟩ = false ∧ w.frozen? ⟨k, 2, none⟩ = false := ⟨h.free 0, h.free 1, h.free 2⟩
end Go.Proofs.YtkhmgdfhggejaaaGreatDoor.Q
