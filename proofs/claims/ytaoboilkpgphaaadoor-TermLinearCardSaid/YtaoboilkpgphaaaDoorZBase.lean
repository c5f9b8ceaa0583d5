/-
  What each law of layer 2 shares: an argument that is an integer opened, and the small contracts of package mullionlaw2.
-/
import Derived.Test.YtaoboilkpgphaaaDoorZFaceA
import Derived.Test.YtaoboilkpgphaaaDoorJZ




import Derived.ProofKit
import Derived.OpenShut
import Derived.Carry
import Derived.Lib.SmallJoins
namespace Go.Proofs.YtaoboilkpgphaaaDoor
set_option linter.unusedSimpArgs false
set_option linter.unusedVariables false
open Go.ChangeShapes Go.WideShapes Go.ChangeAt Go.RowKit

theorem own : ownKnob Tryd.prog.godebug = none := by kernel_rfl
theorem laidOut : laidOutB Tryd.prog = true := by kernel_rfl
theorem cells_u32 : Tryd.prog.cellsOf 91 = 1 := by kernel_rfl
theorem cells_Int : Tryd.prog.cellsOf 24 = 2 := by kernel_rfl

section
variable {H : Type} {enc : TypeId × Value → H} {W W' : World}

theorem u32_of_wf {n : Int} (h : (Lit.int .u32 n).wf = true) : 0 ≤ n ∧ n < 4294967296 := by
 have : 0 ≤ n ∧ n ≤ 4294967295 := by simpa [Lit.wf, IntKind.min, IntKind.max, IntKind.signed, IntKind.bits] using h
 omega
theorem open_row {fuel : Nat} {v : Value} {y : DataW H × List MemPlace} (hf : DataW.trod enc Tryd.prog W 0 (fun _ => true) true fuel 22 [v] = some y) :
 ∃ A n c l, v = .slice A n c ∧ Num W W.heap.size v l := by
 rcases open_ints Tryd.underlying22 Tryd.underlying91 cells_u32 hf with ⟨hcs, _⟩ | ⟨a, len, cap, zs, hcs, _, hl, hm, hz, _, hcell, hwz⟩
 ·injection hcs with hcs
  exact ⟨none, 0, 0, [], hcs, by rw [hcs]; exact Num.nil _ _⟩
 ·injection hcs with hcs
  subst hcs
  simp only [if_true] at hz
  have hwf : ∀ n ∈ zs, 0 ≤ n ∧ n < 4294967296 := fun n hn => u32_of_wf (hwz n hn)
  refine ⟨_, _, _, (zs.take len).map Int.toNat, rfl, some a, len, cap, rfl, by simp; omega, hl, hm, ?_, fun hne => ⟨a, rfl, ?_, ?_⟩⟩
  ·intro x hx
   obtain ⟨n, hn, rfl⟩ := List.mem_map.1 hx
   have := hwf n (List.mem_of_mem_take hn)
   omega
  ·have h0 : 0 < zs.length := by
    rcases zs with _ | ⟨z, zs⟩
    ·simp at hne
    ·simp
   have := World.block_lt_of_cell? W _ (hcell 0 h0)
   rwa [addr_block] at this
  ·intro i x hx
   rw [List.getElem?_map, List.getElem?_take] at hx
   obtain ⟨n, hn, rfl⟩ := Option.map_eq_some_iff.1 hx
   split at hn
   ·obtain ⟨hi, he⟩ := List.getElem?_eq_some_iff.1 hn
    rw [hcell i hi]
    have : zs.getD i 0 = n := by simp [List.getD, hi, he]
    rw [this]
    have := hwf n (he ▸ List.getElem_mem hi)
    rw [Int.toNat_of_nonneg this.1]
   ·cases hn
set_option maxRecDepth 100000 in
/-- An argument that is an integer, or what is none. -/
theorem open_Z {r : Reach} {b0 : Nat} {v : Value} {d : DataW H} {ps : List MemPlace} (hval : Value.okWide Tryd.prog W r b0 24 v) (h : DataW.Trod enc Tryd.prog W 0 (fun _ => true) true 24 v d ps) :
 ∃ g A n c l, v = .agg #[.bool g, .slice A n c] ∧ Num W W.heap.size (.slice A n c) l := by
 obtain ⟨v0, v1, y0, y1, n, rfl, _, _, h0, h1⟩ := Go.Joins.open_agg2 Tryd.underlying24 (by kernel_rfl) cells_Int hval h
 obtain ⟨b, hb, _⟩ := DataW.trod_bool Tryd.underlying4 h0
 injection hb with hb
 subst hb
 obtain ⟨A, n, c, l, rfl, hn⟩ := open_row h1
 exact ⟨b, A, n, c, l, rfl, hn⟩
theorem args_stay {sp' : Nat → Bool} : ∀ {ts : List TypeId} {vs : List Value} {ds : List (DataW H)} {ps : List MemPlace}, (∀ t ∈ ts, Tryd.prog.readableRec t = true ∧ t < Tryd.prog.types.size) →
 DataW.TrodAll enc Tryd.prog W 0 (fun _ => true) true ts vs ds ps → Below W.heap.size W W' → (∀ p ∈ ps, p.block < W.heap.size) → (∀ p ∈ ps, sp' p.block = true) → DataW.TrodAll enc Tryd.prog W' 0 sp' true ts vs ds ps
 | [], [], [], _, _, h, _, _, _ => h
 | t :: ts, v :: vs, d :: ds, ps, hts, ⟨p, q, h1, h2, he⟩, hb, hlt, hs => by
  subst he
  refine ⟨p, q, WideElems.Trod_stays laidOut (hts t (by simp)).1 (hts t (by simp)).2 h1 (fun x hx => hb.same (hlt x (List.mem_append_left _ hx))) (fun x hx => hs x (List.mem_append_left _ hx)), ?_, rfl⟩
  exact args_stay (fun t' ht => hts t' (List.mem_cons_of_mem _ ht)) h2 hb (fun x hx => hlt x (List.mem_append_right _ hx)) (fun x hx => hs x (List.mem_append_right _ hx))

/-- A law that says true and only made memory: its post. -/
theorem law_post {f : Func} {s : ChangeSpec} {args : Array Value} {ds gs : List (DataW H)} {before : List MemPlace}
 (hW : DataW.Whole enc Tryd.prog f.params.toList s.vars false W args.toList ds gs before) (hs : s.vars = []) (hspec : s.fn H (ds ++ gs) = { results := [.lit (.bool true)], args := ds })
 (hrt : f.resultTypes = #[4]) (hall : (f.params.toList.all fun t => Tryd.prog.readableRec t && decide (t < Tryd.prog.types.size)) = true) (hb : Ext W W') :
 s.post enc Tryd.prog f false true false false W args (.bool true) W' := by
 have hts : ∀ t ∈ f.params.toList, Tryd.prog.readableRec t = true ∧ t < Tryd.prog.types.size := fun t ht => by simpa using List.all_eq_true.1 hall t ht
 have hW' := hW
 obtain ⟨p, q, hA, hV, hpq, hfz, hnd⟩ := hW
 rw [hs] at hV
 have hlt : ∀ x ∈ p, x.block < W.heap.size := fun x hx => hW'.lt x (by rw [hpq]; exact List.mem_append_left _ hx)
 obtain ⟨rfl, rfl⟩ := trodVars_none hV
 refine ⟨ds, [], before, [], p, [], hW', ?_, ?_, ?_, ?_, fun h => by cases h⟩
 ·rw [hspec, hrt]
  exact trodAll_mk1 (shut_bool Tryd.underlying4 true)
 ·rw [hspec]
  exact args_stay hts hA hb hlt (fun x hx => by simpa using hlt x hx)
 ·rw [hspec, hs]; rfl
 ·refine World.keptBut_mono (fun x hx => ⟨hx, .inr (.inl ?_)⟩) (hb.below.frame (· ∈ before))
  rw [hpq, List.append_nil] at hx
  exact hx
end

theorem IsZ.shape {w : World} {v : Value} {Z : Int} {k : Nat} (h : IsZ w v Z k) : ∃ g A n c, v = .agg #[.bool g, .slice A n c] := by
 obtain ⟨A, n, c, e, _⟩ := h
 exact ⟨_, A, n, c, e⟩
theorem isZ_true {w : World} {v : Value} {Z : Int} {k : Nat} (h : IsZ w v Z k) : Calls Tryd.prog 55 #[v] w (GivesB w true) := by
 obtain ⟨A, n, c, rfl, hm, _⟩ := h
 exact wIs_any hm (M.isZ_of Z)
theorem sign_e {w : World} {u : Value} {Z : Int} {j : Nat} (hu : Worth w u Z j) {s : Int} (hs : Z.sign = s) : Calls Tryd.prog 74 #[u] w (fun e w' => e = .returned (.int .i64 s) ∧ Ext w w') := hs ▸ sign_w hu
theorem worth_of {w : World} {g : Bool} {A : Option Addr} {n c : Nat} {l : List Nat} (hm : Num w w.heap.size (.slice A n c) l) {k : Nat} (hk : l.length ≤ k) {x : Int} (hx : x = M.zv g l) : Worth w (.agg #[.bool g, .slice A n c]) x k :=
 ⟨g, A, n, c, l, rfl, hm, hk, hx.symm⟩
end Go.Proofs.YtaoboilkpgphaaaDoor
