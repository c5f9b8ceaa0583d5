/-
  Package tree: the reader's state in memory; a row of trees copied.
-/
import Derived.Test.YtceplnfjlncekaaQUMath
import Derived.Test.YtceplnfjlncekaaQUCount
import Derived.Test.YtceplnfjlncekaaQTFails
import Derived.Test.YtceplnfjlncekaaQTGhost
import Derived.Laws.OwnMore
namespace Go.Proofs.Ytceplnfjlncekaa
set_option linter.unusedSimpArgs false
set_option linter.unusedVariables false
open Go.RowKit

theorem Reps.len {w : World} : ∀ {ks : List M.T} {cs : List Value}, Reps w ks cs → cs.length = ks.length * 4
 | [], _, h => by subst h; rfl
 | t :: r, _, ⟨v, cs', h1, _, h3⟩ => by subst h1; have := h3.len; simp; omega
theorem Reps.app {w : World} : ∀ {a b : List M.T} {cs : List Value}, Reps w (a ++ b) cs → Reps w a (cs.take (a.length * 4)) ∧ Reps w b (cs.drop (a.length * 4))
 | [], b, cs, h => by simpa [Reps] using h
 | t :: r, b, cs, ⟨v, cs', h1, h2, h3⟩ => by
  subst h1
  obtain ⟨k1, k2⟩ := h3.app
  have e : (t :: r).length * 4 = r.length * 4 + 1 + 1 + 1 + 1 := by simp; omega
  rw [e]
  simp only [List.take_succ_cons, List.drop_succ_cons]
  exact ⟨⟨v, _, rfl, h2, k1⟩, k2⟩
theorem Reps.one {w : World} : ∀ {ks : List M.T} {cs : List Value}, Reps w ks cs → ∀ u ∈ cs, u.oneCell' = true
 | [], _, h, u, hu => by subst h; simp at hu
 | t :: r, _, ⟨v, cs', h1, h2, h3⟩, u, hu => by
  subst h1
  simp only [List.mem_cons] at hu
  rcases hu with rfl | rfl | rfl | rfl | hu
  ·rfl
  ·rfl
  ·rfl
  ·exact h2.2
  ·exact h3.one u hu
theorem ownsRow_prefix {w : World} {base : Nat} {e : TypeId} {size : Nat} {A : Option Addr} {n cap : Nat} {xs : List Value} (h : w.ownsRow base e size (.slice A n cap) n xs) {k : Nat} (hk : k ≤ n) : w.ownsRow base e size (.slice A k cap) k (xs.take (k * size)) := by
 obtain ⟨h1, h2⟩ := h
 have hm : k * size ≤ n * size := Nat.mul_le_mul_right _ hk
 refine ⟨by rw [List.length_take, h1]; omega, ?_⟩
 rcases h2 with ⟨h2, rfl⟩ | ⟨g, cap', cur, h2, h3, h4, h5, h6, h7, h8⟩
 ·obtain rfl : k = 0 := by omega
  exact .inl ⟨h2, rfl⟩
 ·injection h2 with e1 e2 e3
  subst e1 e3
  exact .inr ⟨g, cap, cur, rfl, h3, h4, by omega, h6, h7, by rw [← h8, List.take_take, Nat.min_eq_left hm]⟩
theorem ownsRow_shape {w : World} {base : Nat} {e : TypeId} {size : Nat} {v : Value} {n : Nat} {xs : List Value} (h : w.ownsRow base e size v n xs) : ∃ A c, v = .slice A n c ∧ n ≤ c ∧ c ≤ maxLen := by
 rcases h.2 with ⟨rfl, rfl⟩ | ⟨g, cap', cur, rfl, h3, h4, h5, h6, _⟩
 ·exact ⟨none, 0, rfl, Nat.le_refl _, Nat.zero_le _⟩
 ·exact ⟨_, _, rfl, h5, h6⟩
/-- A row of one's own, read as a list of trees. -/
theorem owns_kids {p : Nat → Prop} [DecidablePred p] {base : Nat} {w : World} {v : Value} {ks : List M.T} {cs : List Value} (h : w.ownsRow base 35 4 v ks.length cs) (hr : Reps (gp p w) ks cs) (hp : ∀ b, v.ownBlock = some b → p b) : Kids (gp p w) ks v := by
 have hh := h
 obtain ⟨hl, h3⟩ := h
 rcases h3 with ⟨rfl, h0⟩ | ⟨b, cap, cur, rfl, hb, hc, hc1, hm, _, _⟩
 ·obtain rfl : ks = [] := List.eq_nil_of_length_eq_zero h0
  exact Kids.nil _
 ·refine Kids.mk_ ⟨_, _, _, rfl, rfl, hc1, hm, fun hn => ⟨_, rfl, by rw [gp_size]; exact (Array.getElem?_eq_some_iff.1 hc).1, fun k t hk => ?_⟩⟩
  obtain ⟨v', k0, k1, k2, k3, k4⟩ := hr.get hk
  have key : ∀ j u, cs[j]? = some u → (gp p w).cell? ((⟨b, 0, none⟩ : Addr).add j) = some u := fun j u hu => gp_cell.2 ⟨by rw [addr_block]; exact hp b rfl, World.ownsRow.cells hh (g := b) rfl _ _ hu⟩
  rw [M.T.eta t]
  refine inAt_mk.2 ⟨v', ⟨key _ _ k0, ?_, ?_, ?_⟩, k4⟩
  ·rw [Addr.add_add]; exact key _ _ k1
  ·rw [Addr.add_add]; exact key _ _ k2
  ·rw [Addr.add_add]; exact key _ _ k3
/-- Where what the reader has read lies: beside its box, its row and the row of what is open. -/
abbrev away (base g : Nat) (rv ov : Value) (k : Nat) : Prop := base ≤ k ∧ k ≠ g ∧ rv.ownBlock ≠ some k ∧ ov.ownBlock ≠ some k
def opensV (s : M.St) : List Value := (M.opens s.up).map fun (k : Nat) => .int .i64 (k : Int)
abbrev rowK (s : M.St) : List M.T := M.rowUp s.up ++ s.cur
/-- A reader in memory. -/
structure RS (base : Nat) (w : World) (g : Nat) (s : M.St) (rv ov : Value) : Prop where
 box : Box w g #[rv, ov, .int .i64 (s.n : Int)] 48
 row : ∃ cs, w.ownsRow base 35 4 rv (rowK s).length cs ∧ Reps (gp (away base g rv ov) w) (rowK s) cs
 op : w.ownsRow base 3 1 ov s.up.length (opensV s)
 lo : base ≤ g
theorem RS.sz {base : Nat} {w : World} {g : Nat} {s : M.St} {rv ov : Value} (h : RS base w g s rv ov) : base ≤ w.heap.size := by have := h.box.lt; have := h.lo; omega
/-- Rows of unlike types don't share a block. -/
theorem ownsRow_ne {w : World} {base base' : Nat} {e e' : TypeId} {size size' : Nat} {v v' : Value} {n n' : Nat} {xs xs' : List Value} (h : w.ownsRow base e size v n xs) (h' : w.ownsRow base' e' size' v' n' xs') (hne : e ≠ e') (b : Nat) (hb : v.ownBlock = some b) : v'.ownBlock ≠ some b := by
 intro hb'
 rcases h.2 with ⟨rfl, _⟩ | ⟨g, cap, cur, rfl, _, hg, _⟩
 ·simp [Value.ownBlock] at hb
 rcases h'.2 with ⟨rfl, _⟩ | ⟨g', cap', cur', rfl, _, hg', _⟩
 ·simp [Value.ownBlock] at hb'
 simp [Value.ownBlock] at hb hb'
 subst hb hb'
 rw [hg] at hg'
 injection hg' with hg'
 injection hg' with e1 e2
 exact hne e2
theorem ownsRow_box {w : World} {base : Nat} {e T : TypeId} {size g : Nat} {v : Value} {n : Nat} {xs : List Value} {cs : Array Value} (h : w.ownsRow base e size v n xs) (hB : Box w g cs T) (hne : e ≠ T) : v.ownBlock ≠ some g := by
 intro hb
 rcases h.2 with ⟨rfl, _⟩ | ⟨g', cap, cur, rfl, _, hg, _⟩
 ·simp [Value.ownBlock] at hb
 simp [Value.ownBlock] at hb
 subst hb
 unfold Box at hB
 rw [hg] at hB
 injection hB with hB
 injection hB with e1 e2
 exact hne e2
/-- What is there stays where neither the box nor the rows are written into. -/
theorem RS.up {base : Nat} {w w' : World} {g : Nat} {s : M.St} {rv ov : Value} (h : RS base w g s rv ov) (e : Ext w w') : RS base w' g s rv ov := by
 obtain ⟨cs, h1, h2⟩ := h.row
 exact ⟨h.box.up e, ⟨cs, ownsRow_frame h1 fun b _ hb => e.block b hb, h2.sub (gp_mono e.size fun k hk hp => ⟨hp, e.block k hk⟩)⟩, ownsRow_frame h.op fun b _ hb => e.block b hb, h.lo⟩
theorem M.opens_snoc (u : List M.T) (r : List (List M.T)) : M.opens (u :: r) = M.opens r ++ [(M.rowUp (u :: r)).length] := rfl
theorem opensV_len (s : M.St) : (opensV s).length = s.up.length := by unfold opensV; rw [List.length_map, M.opens_len]
set_option maxHeartbeats 4000000 in
theorem copied_n {w : World} {A : Option Addr} {m c : Nat} {cs : List Value} (hl : cs.length = m * 4) (h1 : ∀ u ∈ cs, u.oneCell' = true) (hA : (A = none ∧ m = 0 ∧ c = 0) ∨ ∃ ad, A = some ad ∧ ∀ j u, cs[j]? = some u → w.cell? (ad.add j) = some u) (hm : m ≤ 1000000000) :
 Calls Try.prog 29 #[.slice A m c] w (fun e w' => ∃ v', e = .returned v' ∧ w'.ownsRow w.heap.size 35 4 v' m cs ∧ Ext w w') := by
 rcases hA with ⟨rfl, rfl, rfl⟩ | ⟨ad, rfl, hA⟩
 ·obtain rfl : cs = [] := List.eq_nil_of_length_eq_zero (by simpa using hl)
  clear hl h1 hm
  go_enter Try.func29, Try.ntmps29
  go_wp2
  go_ret
  exact ⟨_, rfl, World.ownsRow_nil .., Ext.refl w⟩
 ·obtain ⟨i0, hi, hz0, hz1, hz2⟩ := info_parts info_Tree
  have HL := hid hl
  have H1 := hid h1
  have HA := hid hA
  have HI := hid hi
  have HZ0 := hid hz0
  have HZ1 := hid hz1
  have HZ2 := hid hz2
  clear hl h1 hA hi hz0 hz1 hz2
  go_enter Try.func29, Try.ntmps29
  go_wp2_with (at_builtin; refine wpList_append_own w rfl (.const (.slice none 0 0)) (.tmp 3) 25 rfl w.heap.size 35 i0 _ 4 56 Try.underlying25 HI.out HZ0.out HZ1.out HZ2.out rfl (by decide) (.slice none 0 0) 0 [] rfl (World.ownsRow_nil ..) ad m c cs rfl HL.out HA.out H1.out ?c0 ?c1 (Nat.le_refl _) ?_)
  case c0 => unfold maxLen; omega
  case c1 => omega
  intro v' w' ho hg _
  have HO := hid ho
  have E := hid (show Ext w w' from (Below.refl _ _).grown hg (Nat.le_refl _) fun k hk => by simp [Value.ownBlock] at hk)
  clear ho hg
  go_wp2_with fail
  go_ret
  exact ⟨_, rfl, HO.out, E.out⟩
set_option maxHeartbeats 4000000 in
theorem list_n {w : World} {A : Option Addr} {m c : Nat} {cs : List Value} (hl : cs.length = m * 4) (h1 : ∀ u ∈ cs, u.oneCell' = true) (hA : (A = none ∧ m = 0 ∧ c = 0) ∨ ∃ ad, A = some ad ∧ ∀ j u, cs[j]? = some u → w.cell? (ad.add j) = some u) (hm : m ≤ 1000000000) :
 Calls Try.prog 44 #[.slice A m c] w (fun e w' => ∃ A' c', e = .returned (tv true (0, []) A' m c') ∧ w'.ownsRow (w.heap.size + 1) 35 4 (.slice A' m c') m cs ∧ Ext w w') := by
 have hA' : (A = none ∧ m = 0 ∧ c = 0) ∨ ∃ ad, A = some ad ∧ ∀ j u, cs[j]? = some u → (w.alloc (.cells #[.bool false, .int .i64 0, .string ⟨#[]⟩, .slice none 0 0] 35)).cell? (ad.add j) = some u := hA.imp id fun ⟨ad, e, h⟩ => ⟨ad, e, fun j u hu => (Ext.alloc w _).cell (h j u hu)⟩
 have HC := hid (copied_n hl h1 hA' hm)
 clear hl h1 hA hA' hm
 go_enter Try.func44, Try.ntmps44
 go_wp2_with fail
 refine HC.out.mono ?_
 rintro e w2 ⟨v2, rfl, ho, hb⟩
 obtain ⟨A', c', rfl, hc1, hc2⟩ := ownsRow_shape ho
 obtain ⟨b0, b1, b2, b3, hz⟩ := box4 hb
 have hBX := (Box.new w #[.bool false, .int .i64 0, .string ⟨#[]⟩, .slice none 0 0] 35).up hb
 have fz := fun o => hBX.free o
 have HBX := hid ((((hBX.setAt 0 (.bool true)).setAt 1 (.int .i64 0)).setAt 2 (.string ⟨#[]⟩)).setAt 3 (.slice A' m c'))
 have f0 := fz 0
 have f1 := fz 1
 have f2 := fz 2
 have f3 := fz 3
 have HO := hid ho
 have E := hid hb
 clear ho hb fz hBX
 go_wp2_with fail
 clear b0 b1 b2 b3 f0 f1 f2 f3
 have k0 := HBX.out.k 0 (v := .bool true)
 have k1 := HBX.out.k 1 (v := .int .i64 0)
 have k2 := HBX.out.k 2 (v := .string ⟨#[]⟩)
 have k3 := HBX.out.k 3 (v := .slice A' m c')
 have hK : Kept [w.heap.size] w2 ((((w2.setCell ⟨w.heap.size, 0, none⟩ (.bool true)).setCell ⟨w.heap.size, 1, none⟩ (.int .i64 0)).setCell ⟨w.heap.size, 2, none⟩ (.string ⟨#[]⟩)).setCell ⟨w.heap.size, 3, none⟩ (.slice A' m c')) := (((kept_setAt _).trans (kept_setAt _)).trans (kept_setAt _)).trans (kept_setAt _)
 obtain ⟨W, hW⟩ : ∃ W, ((((w2.setCell ⟨w.heap.size, 0, none⟩ (.bool true)).setCell ⟨w.heap.size, 1, none⟩ (.int .i64 0)).setCell ⟨w.heap.size, 2, none⟩ (.string ⟨#[]⟩)).setCell ⟨w.heap.size, 3, none⟩ (.slice A' m c')) = W := ⟨_, rfl⟩
 rw [hW] at hK k0 k1 k2 k3 ⊢
 clear hW HBX
 refine bodyPost_ret (v := tv true (0, []) A' m c') (by simp [results, Try.results44, go_sem, k0, k1, k2, k3]) rfl ⟨A', c', rfl, ?_, ?_⟩
 ·have h := HO.out
  rw [show (w.alloc (.cells #[.bool false, .int .i64 0, .string ⟨#[]⟩, .slice none 0 0] 35)).heap.size = w.heap.size + 1 by simp] at h
  exact ownsRow_frame h fun b hb hlt => hK.2 b hlt (by simp; omega)
 ·exact ((Ext.alloc w _).trans E.out).keptG hK (Nat.le_refl _)
end Go.Proofs.Ytceplnfjlncekaa
