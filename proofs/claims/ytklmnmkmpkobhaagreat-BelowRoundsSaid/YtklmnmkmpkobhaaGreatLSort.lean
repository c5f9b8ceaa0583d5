/-
  slices.SortFunc over a list of terms of the call's own (off the shelf): the same terms, rising.
-/
import Derived.Test.YtklmnmkmpkobhaaGreatLSumM
import Derived.Test.YtklmnmkmpkobhaaGreatSort
import Derived.Test.YtklmnmkmpkobhaaGreatShelf
namespace Go.Proofs.YtklmnmkmpkobhaaGreat
open Go.RowKit
set_option linter.unusedSimpArgs false
set_option linter.unusedVariables false

/-- A term's three cells, apart. -/
abbrev LRaw := Int × Bool × Option Addr × Nat × Nat
def encL (x : LRaw) : List Value := [.int .i64 x.1, .bool x.2.1, .slice x.2.2.1 x.2.2.2.1 x.2.2.2.2]
def LRel (w : World) (x : LRaw) (y : Int × Bool × List Nat) : Prop := x.1 = y.1 ∧ x.2.1 = y.2.1 ∧ Num w w.heap.size (.slice x.2.2.1 x.2.2.2.1 x.2.2.2.2) y.2.2
theorem encL_one (x : LRaw) : ∀ v ∈ encL x, v.oneCell' = true := by
 intro v hv
 simp [encL] at hv
 rcases hv with rfl | rfl | rfl <;> rfl
/-- What stands at place k of a row of cells. -/
def rawAt (cur : Array Value) (k : Nat) : LRaw :=
 match cur[k * 3]?, cur[k * 3 + 1]?, cur[k * 3 + 2]? with
 | some (.int _ v), some (.bool b), some (.slice A n c) => (v, b, A, n, c)
 | _, _, _ => (0, false, none, 0, 0)
theorem LCell.raw {w : World} {cur : Array Value} {k : Nat} {y : Int × Bool × List Nat} (h : LCell w cur k y) : LRel w (rawAt cur k) y ∧ ∀ r, r < 3 → cur[k * 3 + r]? = some (encL (rawAt cur k))[r]! := by
 obtain ⟨A, n, c, h0, h1, h2, h3⟩ := h
 have e : rawAt cur k = (y.1, y.2.1, A, n, c) := by unfold rawAt; rw [h0, h1, h2]
 rw [e]
 refine ⟨⟨rfl, rfl, h3⟩, fun r hr => ?_⟩
 rcases (show r = 0 ∨ r = 1 ∨ r = 2 by omega) with rfl | rfl | rfl
 ·exact h0
 ·exact h1
 ·exact h2
theorem perm_map_inv {α β : Type} (f : α → β) {l l' : List β} (h : l.Perm l') : ∀ ps : List α, ps.map f = l' → ∃ ps' : List α, ps'.Perm ps ∧ ps'.map f = l := by
 induction h with
 | nil => intro ps e; exact ⟨ps, List.Perm.refl _, e⟩
 | cons x _ ih =>
  intro ps e
  cases ps with
  | nil => simp at e
  | cons p r =>
   simp at e
   obtain ⟨r', h1, h2⟩ := ih r e.2
   exact ⟨p :: r', h1.cons p, by rw [List.map_cons, h2, e.1]⟩
 | swap x y l =>
  intro ps e
  cases ps with
  | nil => simp at e
  | cons p r =>
   cases r with
   | nil => simp at e
   | cons q r =>
    simp at e
    exact ⟨q :: p :: r, List.Perm.swap _ _ _, by rw [List.map_cons, List.map_cons, e.1, e.2.1, e.2.2]⟩
 | trans _ _ i j =>
  intro ps e
  obtain ⟨p1, h1, h2⟩ := j ps e
  obtain ⟨p2, h3, h4⟩ := i p1 h2
  exact ⟨p2, h3.trans h1, h4⟩
theorem ext_grow {w : World} (q : Nat) (os : Array Obj) : Ext w (Go.Sort.grow (w.drewN q) os) := by
 refine (below_drewN (Below.refl _ _) q).trans ?_
 refine ⟨rfl, rfl, rfl, ?_, fun k hk => ?_⟩
 ·rw [Go.Sort.size_grow]; omega
 ·exact Go.Sort.heap_grow_old _ _ hk
theorem byVar_w (x y : LRaw) (W : World) : Calls Tryz.prog 89 #[.agg (encL x).toArray, .agg (encL y).toArray] W fun e w' => e = .returned (.int .i64 (Lib.compareInt x.1 y.1)) ∧ ∃ q os', w' = Go.Sort.grow (W.drewN q) os' := by
 have hcon := fun W' => Tryz.cmp_Compare_int x.1 y.1 W'
 change ∀ W', Calls Tryz.prog 111 _ _ _ at hcon
 generalize Lib.compareInt x.1 y.1 = r at hcon ⊢
 obtain ⟨x1, x2, x3, x4, x5⟩ := x
 obtain ⟨y1, y2, y3, y4, y5⟩ := y
 change Calls _ _ #[.agg #[.int .i64 x1, .bool x2, .slice x3 x4 x5], .agg #[.int .i64 y1, .bool y2, .slice y3 y4 y5]] _ _
 go_enter Tryz.func89, Tryz.ntmps89
 go_wp2_with (go_at_call 111; refine (hcon _).mono ?_; rintro e w' ⟨rfl, rfl⟩)
 go_ret
 exact ⟨rfl, 0, _, by rw [Go.Sort.alloc_eq_grow, Go.Sort.alloc_eq_grow, Go.Sort.grow_grow]; rfl⟩
theorem lt_mono (x y : LRaw) : ltOf (fun x y : LRaw => Lib.compareInt x.1 y.1) x y = decide (x.1 < y.1) := by
 unfold ltOf Lib.compareInt
 by_cases h1 : x.1 < y.1
 ·simp [h1]
 ·by_cases h2 : y.1 < x.1 <;> simp [h1, h2]
theorem swo_mono : Go.Sort.SWO (ltOf fun x y : LRaw => Lib.compareInt x.1 y.1) where
 irrefl x := by rw [lt_mono]; simp
 trans x y z h1 h2 := by rw [lt_mono] at *; simp at *; omega
 ntrans x y z h1 h2 := by rw [lt_mono] at *; simp at *; omega
theorem noLimb_put {cur : Array Value} (h : noLimb cur = true) (d : Array LRaw) : noLimb (Go.Sort.putCells id 0 (Go.Sort.flatK encL 3 d) cur) = true := by
 unfold noLimb at *
 rw [List.all_eq_true] at *
 intro v hv
 obtain ⟨k, hk⟩ := Array.getElem?_of_mem (Array.mem_toList_iff.1 hv)
 unfold Go.Sort.putCells at hk
 rw [Array.getElem?_mapIdx] at hk
 obtain ⟨x, hx, rfl⟩ := Option.map_eq_some_iff.1 hk
 by_cases hc : 0 ≤ k ∧ k < 0 + (Go.Sort.flatK encL 3 d).size
 ·rw [if_pos hc]
  rw [Nat.zero_add, Go.Sort.size_flatK] at hc
  rw [Nat.sub_zero, Go.Sort.get_flatK _ _ _ _ hc.2]
  rcases (show k % 3 = 0 ∨ k % 3 = 1 ∨ k % 3 = 2 by omega) with e | e | e <;> rw [e] <;> rfl
 ·rw [if_neg hc]
  exact h _ (Array.mem_toList_iff.2 (Array.mem_of_getElem? hx))
theorem sort_raw {base : Nat} {w : World} {v : Value} {ls : List (Int × Bool × List Nat)} (h : LOwn base w v ls) (hn : ls.length ≤ 1000000) :
 Calls Tryz.prog 88 #[v, .func (.func 89) #[] #[]] w fun e w' =>
  e = .returned (.tuple #[]) ∧ ∃ ls', ls'.Perm ls ∧ ls'.Pairwise (fun x y => x.1 ≤ y.1) ∧ LOwn base w' v ls' ∧ Kept [ownBlk base v] w w' ∧ Keeps w w' := by
 rcases h with ⟨rfl, rfl⟩ | ⟨g, cap, cur, rfl, hb, hbox, hc, hm, hs, hno, hz⟩
 ·have h0 := AnyF.slices_SortFunc_none Tryz.sortMono none 0 (.func (.func 89) #[] #[]) w
  change Calls Tryz.prog 88 _ _ _ at h0
  refine h0.mono ?_
  rintro e w' ⟨rfl, rfl⟩
  exact ⟨rfl, [], List.Perm.refl _, List.Pairwise.nil, .inl ⟨rfl, rfl⟩, (Ext.refl _).kept _, (Ext.refl _).keeps⟩
 ·obtain ⟨d, hd⟩ : ∃ d : Array LRaw, d = (Array.range ls.length).map (rawAt cur) := ⟨_, rfl⟩
  have hds : d.size = ls.length := by rw [hd]; simp
  have hdg : ∀ k, k < ls.length → d[k]! = rawAt cur k := by
   intro k hk
   rw [getElem!_pos d k (by omega)]
   simp [hd]
  have hget : ∀ k, k < ls.length → ∃ y, ls[k]? = some y := fun k hk => ⟨_, List.getElem?_eq_getElem hk⟩
  have hH : Go.Sort.HoldsK encL 3 w g 0 d := by
   intro j hj
   rw [Go.Sort.size_flatK, hds] at hj
   have hk : j / 3 < ls.length := by omega
   obtain ⟨y, hy⟩ := hget _ hk
   have hr := (hz _ _ hy).raw.2 (j % 3) (Nat.mod_lt _ (by decide))
   rw [Go.Sort.get_flatK _ _ _ _ (by rw [hds]; exact hj), hdg _ hk, Nat.zero_add]
   refine ⟨?_, hbox.free j⟩
   rw [show j / 3 * 3 + j % 3 = j by omega] at hr
   exact hbox.cell hr
  have hcon := AnyQ.slices_SortFunc Tryz.sortMono 3 Tryz.isAgg56 Tryz.sizeOf56 encL (fun _ => rfl) encL_one (fun x y => Lib.compareInt x.1 y.1) swo_mono 89 #[] g 0 cap d w
   (enters_of Tryz.func89 (by kernel_rfl) rfl) (fun _ _ _ _ x y => byVar_w x y _) hH hbox.lt (by omega)
  change Calls Tryz.prog 88 _ _ _ at hcon
  rw [hds] at hcon
  refine hcon.mono ?_
  rintro e w' ⟨rfl, d', n, os, hp, hso, rfl⟩
  refine ⟨rfl, ?_⟩
  have hd's : d'.size = ls.length := hp.1.trans hds
  have hperm : d'.toList.Perm d.toList := by
   have := hp.2.2
   rw [← hds] at this
   conv at this => lhs; rw [← hp.1]
   simpa using this
  obtain ⟨ps, hps⟩ : ∃ ps : List (LRaw × (Int × Bool × List Nat)), ps = d.toList.zip ls := ⟨_, rfl⟩
  have hlen : d.toList.length = ls.length := by rw [Array.length_toList]; exact hds
  have hp1 : ps.map Prod.fst = d.toList := by rw [hps]; exact List.map_fst_zip (by omega)
  have hp2 : ps.map Prod.snd = ls := by rw [hps]; exact List.map_snd_zip (by omega)
  have hrel : ∀ p ∈ ps, LRel w p.1 p.2 := by
   intro p hp
   rw [hps] at hp
   obtain ⟨k, hk, e⟩ := List.getElem_of_mem hp
   have hk2 : k < ls.length := by simp at hk; omega
   have hk1 : k < d.toList.length := by omega
   rw [List.getElem_zip] at e
   subst e
   have h1 := (hz k _ (List.getElem?_eq_getElem hk2)).raw.1
   have h2 := hdg k hk2
   rw [getElem!_pos d k (by omega)] at h2
   rw [← h2] at h1
   simpa using h1
  obtain ⟨ps', hq, hq1⟩ := perm_map_inv Prod.fst hperm ps hp1
  have hq2 : (ps'.map Prod.snd).Perm ls := by rw [← hp2]; exact hq.map _
  have hrel' : ∀ p ∈ ps', LRel w p.1 p.2 := fun p hp => hrel p (hq.mem_iff.1 hp)
  have hl' : ps'.length = ls.length := by rw [hq.length_eq, ← hp2, List.length_map]
  have hd'g : ∀ k (hk : k < ps'.length), d'[k]! = (ps'[k]).1 := by
   intro k hk
   rw [getElem!_pos d' k (by omega)]
   have : d'.toList[k]'(by rw [Array.length_toList]; omega) = (ps'.map Prod.fst)[k]'(by rw [List.length_map]; exact hk) := by simp only [hq1]
   simpa using this
  have hE : Ext (Go.Sort.putRowK encL 3 (Go.Sort.ahead w n) g 0 d') (sortWorldK encL 3 w g 0 n d' os) := by
   have := ext_grow (w := Go.Sort.putRowK encL 3 (Go.Sort.ahead w n) g 0 d') 0 os
   exact this
  have hB0 : Box (Go.Sort.putRowK encL 3 (Go.Sort.ahead w n) g 0 d') g (Go.Sort.putCells id 0 (Go.Sort.flatK encL 3 d') cur) 56 := by
   unfold Box Go.Sort.putRowK Go.Sort.putRow Go.Sort.mapBlock at *
   show (w.heap.modify g _)[g]? = _
   rw [Array.getElem?_modify, if_pos rfl, hbox]
   rfl
  have hK0 : Kept [g] w (Go.Sort.putRowK encL 3 (Go.Sort.ahead w n) g 0 d') := by
   refine ⟨⟨rfl, rfl, rfl, by unfold Go.Sort.putRowK Go.Sort.putRow Go.Sort.mapBlock; simp [Go.Sort.ahead], fun k hk => absurd hk (Nat.not_lt_zero _)⟩, fun k _ hx => ?_⟩
   have hne : g ≠ k := by simp at hx; omega
   show (w.heap.modify g _)[k]? = _
   rw [Array.getElem?_modify, if_neg hne]
  have hkp : Kept [g] w (sortWorldK encL 3 w g 0 n d' os) := hK0.trans (hE.kept _)
  have hks := keeps_store hbox hno hkp
  refine ⟨ps'.map Prod.snd, hq2, ?_, .inr ⟨g, cap, _, by rw [List.length_map, hl'], hb, hB0.up hE, by rw [List.length_map, hl']; exact hc, hm, ?_, noLimb_put hno d', ?_⟩, hkp, hks⟩
  ·rw [List.pairwise_map, List.pairwise_iff_getElem]
   intro i j hi hj hij
   have h1 := hso i j (Nat.zero_le _) hij (by omega)
   rw [lt_mono, hd'g j hj, hd'g i hi] at h1
   have hi' := (hrel' _ (List.getElem_mem hi)).1
   have hj' := (hrel' _ (List.getElem_mem hj)).1
   simp at h1
   rw [← hi', ← hj']; exact h1
  ·unfold Go.Sort.putCells; rw [Array.size_mapIdx]; exact hs
  ·intro k y hk
   rw [List.getElem?_map] at hk
   obtain ⟨p, hp, rfl⟩ := Option.map_eq_some_iff.1 hk
   obtain ⟨hk', rfl⟩ := List.getElem?_eq_some_iff.1 hp
   obtain ⟨r1, r2, r3⟩ := hrel' _ (List.getElem_mem hk')
   have hg := hd'g k hk'
   have hcell : ∀ r, r < 3 → (Go.Sort.putCells id 0 (Go.Sort.flatK encL 3 d') cur)[k * 3 + r]? = some (encL (ps'[k]).1)[r]! := by
    intro r hr
    have hlt : k * 3 + r < cur.size := by rw [hs]; omega
    unfold Go.Sort.putCells
    rw [Array.getElem?_mapIdx, Array.getElem?_eq_getElem hlt, Option.map_some, if_pos ⟨Nat.zero_le _, by rw [Nat.zero_add, Go.Sort.size_flatK]; omega⟩, Nat.sub_zero, Go.Sort.get_flatK _ _ _ _ (by omega), show (k * 3 + r) / 3 = k by omega, show (k * 3 + r) % 3 = r by omega, hg]
    rfl
   refine ⟨_, _, _, ?_, ?_, ?_, hks _ _ r3⟩
   ·rw [← r1]; exact hcell 0 (by decide)
   ·rw [← r2]; exact hcell 1 (by decide)
   ·exact hcell 2 (by decide)
namespace M
theorem tv_rawm (t : Tm) : tv (t.map rawm) = t := by
 induction t with
 | nil => rfl
 | cons x r ih =>
  obtain ⟨v, c⟩ := x
  show (v, zv (decide (c < 0)) (limbs c.natAbs)) :: tv (r.map rawm) = (v, c) :: r
  rw [ih, zv_of]
end M
/-- The terms t, sorted. -/
theorem sort_l {base : Nat} {w : World} {v : Value} {t : M.Tm} (h : LOwn base w v (t.map M.rawm)) (hn : t.length ≤ 1000000) :
 Calls Tryz.prog 88 #[v, .func (.func 89) #[] #[]] w fun e w' =>
  e = .returned (.tuple #[]) ∧ ∃ s : M.Tm, s.Perm t ∧ M.srt s ∧ LOwn base w' v (s.map M.rawm) ∧ Kept [ownBlk base v] w w' ∧ Keeps w w' := by
 refine (sort_raw h (by rw [List.length_map]; exact hn)).mono ?_
 rintro e w' ⟨rfl, ls', h1, h2, h3, h4, h5⟩
 have e1 : (M.tv ls').map M.rawm = ls' := by
  have : ∀ x ∈ ls', M.rawm (x.1, M.zv x.2.1 x.2.2) = x := by
   intro x hx
   obtain ⟨y, hy, rfl⟩ := List.mem_map.1 (h1.mem_iff.1 hx)
   show M.rawm (y.1, M.zv (decide (y.2 < 0)) (M.limbs y.2.natAbs)) = M.rawm y
   rw [M.zv_of]
  unfold M.tv
  rw [List.map_map]
  conv => rhs; rw [← List.map_id ls']
  exact List.map_congr_left this
 refine ⟨rfl, M.tv ls', ?_, ?_, by rw [e1]; exact h3, h4, h5⟩
 ·have := h1.map (fun x : Int × Bool × List Nat => (x.1, M.zv x.2.1 x.2.2))
  have h6 := M.tv_rawm t
  unfold M.tv at h6 ⊢
  rw [h6] at this
  exact this
 ·unfold M.srt M.tv
  rw [List.pairwise_map]
  exact h2
end Go.Proofs.YtklmnmkmpkobhaaGreat
