/-
  What each law's proof of layer 8 shares: an argument that is a list of words opened, and the row's last step behind a call that only makes memory.
-/
import Derived.Test.YtceplnfjlncekaaQKnown
import Derived.ProofKit
import Derived.OpenShut
import Derived.Carry
import Derived.ChangeMaps5
namespace Go.Proofs.Ytceplnfjlncekaa
set_option linter.unusedSimpArgs false
set_option linter.unusedVariables false
open Go.ChangeShapes Go.WideShapes Go.ChangeAt Go.RowKit

theorem own : ownKnob Try.prog.godebug = none := by kernel_rfl
theorem laidOut : laidOutB Try.prog = true := by kernel_rfl
theorem cells_Token : Try.prog.cellsOf 33 = 2 := by kernel_rfl

section
variable {H : Type} {enc : TypeId × Value → H} {W W' : World}

theorem u8_of_wf {n : Int} (h : (Lit.int .u8 n).wf = true) : 0 ≤ n ∧ n ≤ 255 := by
 simpa [Lit.wf, IntKind.min, IntKind.max, IntKind.signed, IntKind.bits] using h
theorem u16_of_wf {n : Int} (h : (Lit.int .u16 n).wf = true) : 0 ≤ n ∧ n ≤ 65535 := by
 simpa [Lit.wf, IntKind.min, IntKind.max, IntKind.signed, IntKind.bits] using h
set_option maxRecDepth 100000 in
theorem open_TL {r : Reach} {b0 : Nat} {v : Value} {d : DataW H} {ps : List MemPlace} (hval : Value.okWide Try.prog W r b0 22 v) (h : DataW.Trod enc Try.prog W 0 (fun _ => true) true 22 v d ps) :
 ∃ A n c ts, v = .slice A n c ∧ TList W (.slice A n c) ts := by
 obtain ⟨a0, len, cap, rfl⟩ := okWide_slice Try.underlying22 hval
 obtain ⟨fuel, hf⟩ := h
 have hf' : DataW.trod enc Try.prog W 0 (fun _ => true) true fuel 22 [.slice a0 len cap] = some (d, ps) := hf
 rcases Go.Deep.open_slice Try.underlying22 hf' with ⟨hcs, _⟩ | ⟨a, len', cap', m, n, D, Pl, hcs, _, hl, hmx, hm, _, hx⟩
 ·injection hcs with hcs
  injection hcs with e1 e2 e3
  subst e1 e2 e3
  exact ⟨none, 0, 0, [], rfl, TList.nil _⟩
 ·injection hcs with hcs
  injection hcs with e1 e2 e3
  subst e1 e2 e3
  simp only [if_true] at hm
  subst hm
  rw [cells_Token] at hx
  have key : ∀ i, i < len → ∃ (t : M.Tok), a.block < W.heap.size ∧ W.cell? (a.add (i * 2)) = some (.int .i64 t.1) ∧ W.cell? ((a.add (i * 2)).add 1) = some (str t.2) := by
   intro i hi
   obtain ⟨cs', h1, h2⟩ := hx i (by omega)
   obtain ⟨_, hlen, hc⟩ := World.cells?_some h1
   obtain ⟨y0, y1, n', _, _, h0, h1'⟩ := trod_struct2 Try.underlying33 h2
   match cs', hlen with
   | [v0, v1], _ =>
    have c0 : Try.prog.cellsOf 3 = 1 := by kernel_rfl
    have c1 : Try.prog.cellsOf 9 = 1 := by kernel_rfl
    simp only [List.drop_zero, c0, List.take_succ_cons, List.take_zero] at h0
    simp only [List.drop_succ_cons, List.drop_zero, c1, List.take_succ_cons, List.take_zero] at h1'
    obtain ⟨x, hx', _⟩ := DataW.trod_int Try.underlying3 h0
    injection hx' with hx'
    subst hx'
    obtain ⟨s, hs', _⟩ := DataW.trod_string Try.underlying9 h1'
    injection hs' with hs'
    subst hs'
    have k0 := hc 0 (by omega)
    have k1 := hc 1 (by omega)
    have hbl := World.block_lt_of_cell? W _ k1
    rw [addr_block, addr_block] at hbl
    exact ⟨(x, s.data.toList), hbl, k0, k1⟩
  obtain ⟨f, hfx⟩ := Go.Deep.choose_lt (α := M.Tok) (p := fun i t => a.block < W.heap.size ∧ W.cell? (a.add (i * 2)) = some (.int .i64 t.1) ∧ W.cell? ((a.add (i * 2)).add 1) = some (str t.2)) key
  refine ⟨some a, _, _, (List.range len).map f, rfl, some a, _, _, rfl, by simp, hl, hmx, fun hne => ?_⟩
  have hpos : 0 < len := by
   rcases Nat.eq_zero_or_pos len with h0 | h0
   ·subst h0; simp at hne
   ·exact h0
  refine ⟨a, rfl, (hfx 0 hpos).1, fun k t hk => ?_⟩
  rw [List.getElem?_map] at hk
  obtain ⟨k', hk1, hk2⟩ := Option.map_eq_some_iff.1 hk
  obtain ⟨hk3, hk4⟩ := List.getElem?_eq_some_iff.1 hk1
  simp at hk3 hk4
  subst hk4 hk2
  exact (hfx k hk3).2

theorem args_stay {sp' : Nat → Bool} : ∀ {ts : List TypeId} {vs : List Value} {ds : List (DataW H)} {ps : List MemPlace}, (∀ t ∈ ts, Try.prog.readableRec t = true ∧ t < Try.prog.types.size) →
 DataW.TrodAll enc Try.prog W 0 (fun _ => true) true ts vs ds ps → Below W.heap.size W W' → (∀ p ∈ ps, p.block < W.heap.size) → (∀ p ∈ ps, sp' p.block = true) → DataW.TrodAll enc Try.prog W' 0 sp' true ts vs ds ps
 | [], [], [], _, _, h, _, _, _ => h
 | t :: ts, v :: vs, d :: ds, ps, hts, ⟨p, q, h1, h2, he⟩, hb, hlt, hs => by
  subst he
  refine ⟨p, q, WideElems.Trod_stays laidOut (hts t (by simp)).1 (hts t (by simp)).2 h1 (fun x hx => hb.same (hlt x (List.mem_append_left _ hx))) (fun x hx => hs x (List.mem_append_left _ hx)), ?_, rfl⟩
  exact args_stay (fun t' ht => hts t' (List.mem_cons_of_mem _ ht)) h2 hb (fun x hx => hlt x (List.mem_append_right _ hx)) (fun x hx => hs x (List.mem_append_right _ hx))

/-- A law that says true and only made memory: its post. -/
theorem law_post {f : Func} {s : ChangeSpec} {args : Array Value} {ds gs : List (DataW H)} {before : List MemPlace}
 (hW : DataW.Whole enc Try.prog f.params.toList s.vars false W args.toList ds gs before) (hs : s.vars = []) (hspec : s.fn H (ds ++ gs) = { results := [.lit (.bool true)], args := ds })
 (hrt : f.resultTypes = #[4]) (hall : (f.params.toList.all fun t => Try.prog.readableRec t && decide (t < Try.prog.types.size)) = true) (hb : Ext W W') :
 s.post enc Try.prog f false true false false W args (.bool true) W' := by
 have hts : ∀ t ∈ f.params.toList, Try.prog.readableRec t = true ∧ t < Try.prog.types.size := fun t ht => by simpa using List.all_eq_true.1 hall t ht
 have hW' := hW
 obtain ⟨p, q, hA, hV, hpq, hfz, hnd⟩ := hW
 rw [hs] at hV
 have hlt : ∀ x ∈ p, x.block < W.heap.size := fun x hx => hW'.lt x (by rw [hpq]; exact List.mem_append_left _ hx)
 obtain ⟨rfl, rfl⟩ := trodVars_none hV
 refine ⟨ds, [], before, [], p, [], hW', ?_, ?_, ?_, ?_, fun h => by cases h⟩
 ·rw [hspec, hrt]
  exact trodAll_mk1 (shut_bool Try.underlying4 true)
 ·rw [hspec]
  exact args_stay hts hA hb hlt (fun x hx => by simpa using hlt x hx)
 ·rw [hspec, hs]; rfl
 ·refine World.keptBut_mono (fun x hx => ⟨hx, .inr (.inl ?_)⟩) (hb.below.frame (· ∈ before))
  rw [hpq, List.append_nil] at hx
  exact hx
end
end Go.Proofs.Ytceplnfjlncekaa
