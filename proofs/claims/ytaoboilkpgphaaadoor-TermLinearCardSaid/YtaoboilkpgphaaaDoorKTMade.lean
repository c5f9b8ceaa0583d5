/-
  Contracts of package term: a term of a head and kids, on memory of its own.
-/
import Derived.Test.YtaoboilkpgphaaaDoorKTGhost
namespace Go.Proofs.YtaoboilkpgphaaaDoor.Q
set_option linter.unusedSimpArgs false
set_option linter.unusedVariables false
open Go.RowKit

/-- A term on new memory. -/
def GivesTN (w : World) (t : M.Tm) (e : Ending) (w' : World) : Prop := ∃ v, e = .returned v ∧ IsTm (gp (fun b => w.heap.size ≤ b) w') t v ∧ Ext w w'
theorem GivesTN.plain {w w' : World} {t : M.Tm} {e : Ending} (h : GivesTN w t e w') : GivesT1 w t e w' := by
 obtain ⟨v, h1, h2, h3⟩ := h
 exact ⟨v, h1, h2.sub (gp_sub _ _), h3⟩
/-- A term's cells within a row. -/
def MdC (G : World) (cur : Array Value) (t : M.Tm) (o : Nat) : Prop := ∃ N nn nc v, (cur[o]? = some (.int .i64 t.op) ∧ cur[o + 1]? = some (.bool t.g) ∧ cur[o + 2]? = some (.slice N nn nc) ∧ cur[o + 3]? = some (str t.name) ∧ cur[o + 4]? = some (.int .i64 t.sort) ∧ cur[o + 5]? = some v) ∧ LNum G (.slice N nn nc) t.ls ∧ Tms G t.kids v
theorem MdC.sub {G G' : World} {cur : Array Value} {t : M.Tm} {o : Nat} (h : MdC G cur t o) (e : Sub G G') : MdC G' cur t o := by
 obtain ⟨N, nn, nc, v, h1, h2, h3⟩ := h
 exact ⟨N, nn, nc, v, h1, h2.sub e, h3.sub e⟩
abbrev mdP (B k5 gk b : Nat) : Prop := B ≤ b ∧ b ≠ k5 ∧ b ≠ gk
abbrev put6A (w : World) (g p : Nat) (x0 x1 x2 x3 x4 x5 : Value) : World := (((((w.setCell ⟨g, p, none⟩ x0).setCell ⟨g, p + 1, none⟩ x1).setCell ⟨g, p + 2, none⟩ x2).setCell ⟨g, p + 3, none⟩ x3).setCell ⟨g, p + 4, none⟩ x4).setCell ⟨g, p + 5, none⟩ x5
abbrev cur6 (cur : Array Value) (p : Nat) (x0 x1 x2 x3 x4 x5 : Value) : Array Value := (((((cur.setIfInBounds p x0).setIfInBounds (p + 1) x1).setIfInBounds (p + 2) x2).setIfInBounds (p + 3) x3).setIfInBounds (p + 4) x4).setIfInBounds (p + 5) x5
theorem put6A_box {w : World} {g p : Nat} {cur : Array Value} {T : TypeId} {x0 x1 x2 x3 x4 x5 : Value} (h : Box w g cur T) : Box (put6A w g p x0 x1 x2 x3 x4 x5) g (cur6 cur p x0 x1 x2 x3 x4 x5) T := (((((h.setAt _ _).setAt _ _).setAt _ _).setAt _ _).setAt _ _).setAt _ _
theorem put6A_far {w : World} {g p b : Nat} {x0 x1 x2 x3 x4 x5 : Value} (h : b ≠ g) : (put6A w g p x0 x1 x2 x3 x4 x5).heap[b]? = w.heap[b]? := by
 have key : ∀ (w : World) (o : Nat) (x : Value), (w.setCell ⟨g, o, none⟩ x).heap[b]? = w.heap[b]? := fun w o x => Below.heap_setCell w _ _ _ (show b ≠ g from h)
 rw [key, key, key, key, key, key]
theorem put6A_size {w : World} {g p : Nat} {x0 x1 x2 x3 x4 x5 : Value} : (put6A w g p x0 x1 x2 x3 x4 x5).heap.size = w.heap.size := by simp
theorem put6A_ext {w w1 : World} {g p : Nat} {x0 x1 x2 x3 x4 x5 : Value} (e : Ext w w1) (hk : w.heap.size ≤ g) : Ext w (put6A w1 g p x0 x1 x2 x3 x4 x5) := (((((e.set' hk _).set' hk _).set' hk _).set' hk _).set' hk _).set' hk _
theorem cur6_at {cur : Array Value} {p : Nat} {x0 x1 x2 x3 x4 x5 : Value} (h : p + 6 ≤ cur.size) :
 (cur6 cur p x0 x1 x2 x3 x4 x5)[p]? = some x0 ∧ (cur6 cur p x0 x1 x2 x3 x4 x5)[p + 1]? = some x1 ∧ (cur6 cur p x0 x1 x2 x3 x4 x5)[p + 2]? = some x2 ∧ (cur6 cur p x0 x1 x2 x3 x4 x5)[p + 3]? = some x3 ∧ (cur6 cur p x0 x1 x2 x3 x4 x5)[p + 4]? = some x4 ∧ (cur6 cur p x0 x1 x2 x3 x4 x5)[p + 5]? = some x5 := by
 refine ⟨?_, ?_, ?_, ?_, ?_, ?_⟩
 all_goals
  simp [cur6, Array.getElem?_setIfInBounds]
 all_goals omega
theorem cur6_off {cur : Array Value} {p i : Nat} {x0 x1 x2 x3 x4 x5 : Value} (h : i < p ∨ p + 6 ≤ i) : (cur6 cur p x0 x1 x2 x3 x4 x5)[i]? = cur[i]? := by
 simp only [cur6, Array.getElem?_setIfInBounds, Array.size_setIfInBounds]
 repeat' split
 all_goals first | rfl | omega
theorem cur6_size {cur : Array Value} {p : Nat} {x0 x1 x2 x3 x4 x5 : Value} : (cur6 cur p x0 x1 x2 x3 x4 x5).size = cur.size := by simp [cur6]
theorem MdC.off {G : World} {cur : Array Value} {t : M.Tm} {o p : Nat} {x0 x1 x2 x3 x4 x5 : Value} (h : MdC G cur t o) (hp : o + 6 ≤ p) : MdC G (cur6 cur p x0 x1 x2 x3 x4 x5) t o := by
 obtain ⟨N, nn, nc, v, ⟨c0, c1, c2, c3, c4, c5⟩, h2, h3⟩ := h
 refine ⟨N, nn, nc, v, ⟨?_, ?_, ?_, ?_, ?_, ?_⟩, h2, h3⟩
 all_goals (rw [cur6_off (by omega)]; assumption)
/-- What the loop keeps. -/
def RoundMd (w : World) (k5 gk : Nat) (op : Int) (g : Bool) (N : Option Addr) (nn nc : Nat) (nm : List UInt8) (so : Int) (A : Option Addr) (n c : Nat) (ls : List Nat) (ks : List M.Tm) (k : Nat) (wr : World) : Prop :=
 Box wr (w.heap.size + 1) zero6 27 ∧ Box wr k5 #[.int .i64 op, .bool g, .slice N nn nc, str nm, .int .i64 so, .slice A n c] 27 ∧ LNum (gp (mdP (w.heap.size + 2) k5 gk) wr) (.slice N nn nc) ls ∧ Ext w wr ∧
 (n ≠ 0 → ∃ cur, Box wr gk cur 27 ∧ n * 6 ≤ cur.size ∧ ∀ j t, j < k → ks[j]? = some t → MdC (gp (mdP (w.heap.size + 2) k5 gk) wr) cur t (j * 6))
set_option maxHeartbeats 16000000 in
set_option maxRecDepth 100000 in
theorem made_n : ∀ (F : Nat) {ks : List M.Tm} {op : Int} {g : Bool} {ls : List Nat} {nm : List UInt8} {so : Int} {N0 : Option Addr} {nn0 nc0 : Nat} {A0 : Option Addr} {n0 c0 : Nat} {v : Value} {w : World}, M.kcnts ks < F → M.kcnts ks ≤ 1000 → M.kfews ks = true → nm.length ≤ 1000000000000 → ls.length ≤ 1000000 →
 LNum w (.slice N0 nn0 nc0) ls → Tms w ks v → Calls Tryd.prog 56 #[kv op g N0 nn0 nc0 nm so A0 n0 c0, v] w (GivesTN w (.mk op g ls nm so ks)) := by
 intro F
 induction F with
 | zero => intro ks op g ls nm so N0 nn0 nc0 A0 n0 c0 v w h; omega
 | succ F ih =>
  intro ks op g ls nm so N0 nn0 nc0 A0 n0 c0 v w hF hF2 hfew hnm hls hn hk
  obtain ⟨A, c, rfl⟩ := hk.shape
  obtain ⟨hl1, hl2, hl3⟩ := hk.le
  have hlc := M.kcnts_len ks
  have HK := hid hk
  have HN := hid hn
  have IH := @hid _ @ih
  have HC := hid (fun w' => kclone_n nm hnm w')
  have HFW := hid hfew
  have HF := hid hF
  have HF2 := hid hF2
  have HLS := hid hls
  have HLC := hid hlc
  obtain ⟨n, hnn⟩ : ∃ n, ks.length = n := ⟨_, rfl⟩
  rw [hnn] at HK HLC hl2 ⊢
  have HNN := hid hnn
  clear hk hn ih hnm hfew hF hF2 hls hlc hl1 hnn
  have HB := hid (show Box ((w.alloc (.cells #[.int .i64 op, .bool g, .slice N0 nn0 nc0, str nm, .int .i64 so, .slice A0 n0 c0] 27)).alloc (.cells zero6 27)) w.heap.size #[.int .i64 op, .bool g, .slice N0 nn0 nc0, str nm, .int .i64 so, .slice A0 n0 c0] 27 from (Box.new w _ _).alloc _)
  have HR := hid (show Box ((w.alloc (.cells #[.int .i64 op, .bool g, .slice N0 nn0 nc0, str nm, .int .i64 so, .slice A0 n0 c0] 27)).alloc (.cells zero6 27)) (w.heap.size + 1) zero6 27 from Box.at_ (w := w.alloc (.cells #[.int .i64 op, .bool g, .slice N0 nn0 nc0, str nm, .int .i64 so, .slice A0 n0 c0] 27)) _ _ (by simp))
  go_enter Tryd.func56, Tryd.ntmps56
  go_wp2_with fail
  refine wp_region_L [(0, 0), (1, 0), (2, 0), (3, 0), (4, 0), (5, 0), (7, 0), (8, 0), (6, 2), (9, 0), (10, 3), (11, 4)] 27 zero6 fun wd hb => ?_
  have E := hid ((alloc_two w _ _).trans hb)
  replace HB := hid (HB.out.up hb)
  replace HR := hid (HR.out.up hb)
  have hB0 := HR.out.lt
  clear hb
  refine WE.p 8 (.pointer (some ⟨w.heap.size, 0, none⟩)) ?_
  simp only [Act.put, pA, pB, pC]
  refine WE.q 9 (.int .i64 op) rfl (fun w' hk => by have ce := (HB.out.up hk).k 0; go_simp) ?_
  simp only [Act.put, pA, pB, pC]
  refine WE.p 10 (.pointer (some ⟨w.heap.size, 1, none⟩)) ?_
  simp only [Act.put, pA, pB, pC]
  refine WE.q 11 (.agg #[.bool g, .slice N0 nn0 nc0]) rfl (fun w' hk => by have ce := (HB.out.up hk).k 1; have cf := (HB.out.up hk).k 2; go_simp) ?_
  simp only [Act.put, pA, pB, pC]
  refine WE.p 12 (.pointer (some ⟨w.heap.size, 3, none⟩)) ?_
  simp only [Act.put, pA, pB, pC]
  refine WE.q 13 (str nm) rfl (fun w' hk => by have ce := (HB.out.up hk).k 3; go_simp) ?_
  simp only [Act.put, pA, pB, pC]
  refine WE.p 15 (.pointer (some ⟨w.heap.size, 4, none⟩)) ?_
  simp only [Act.put, pA, pB, pC]
  refine WE.q 16 (.int .i64 so) rfl (fun w' hk => by have ce := (HB.out.up hk).k 4; go_simp) ?_
  simp only [Act.put, pA, pB, pC]
  refine WE.callR (d := some 14) rfl rfl (by rfl) (fun w => by go_simp) fun wa hea => ((HC.out wa).mono ?_)
  rintro e w2 ⟨rfl, hb⟩
  refine ⟨_, rfl, hb, ?_⟩
  replace E := hid (E.out.trans (hea.trans hb))
  replace HB := hid (HB.out.up (hea.trans hb))
  replace HR := hid (HR.out.up (hea.trans hb))
  clear hb hea
  simp only [Act.put, pA, pB, pC]
  refine WE.p 17 (kv op g N0 nn0 nc0 nm so none 0 0) ?_
  simp only [Act.put, pA, pB, pC]
  refine WE.var (d := some 5) rfl fun k5 w3 hx0 hbox hge hng => ?_
  have hk5 : w.heap.size + 1 < k5 := by omega
  replace E := hid (E.out.trans hx0)
  replace HB := hid (HB.out.up hx0)
  replace HR := hid (HR.out.up hx0)
  obtain ⟨⟨a0, a1, a2, a3, a4, a5⟩, ⟨f0, f1, f2, f3, f4, f5⟩, hz5⟩ := boxF6 hbox
  have HO := hid hbox
  clear hx0 hbox hge hng
  simp only [Act.put, pA, pB, pC]
  refine WE.store (w' := put6 w3 k5 (.int .i64 op) (.bool g) (.slice N0 nn0 nc0) (str nm) (.int .i64 so) (.slice none 0 0)) rfl rfl (by rfl) (by go_simp) (by simp) ?_
  refine WE.done ?_
  obtain ⟨W, hW⟩ : ∃ W, W = put6 w3 k5 (.int .i64 op) (.bool g) (.slice N0 nn0 nc0) (str nm) (.int .i64 so) (.slice none 0 0) := ⟨_, rfl⟩
  rw [← hW]
  replace HB := hid (show Box W w.heap.size #[.int .i64 op, .bool g, .slice N0 nn0 nc0, str nm, .int .i64 so, .slice A0 n0 c0] 27 by rw [hW]; exact HB.out.kept put6_kept (by simp; omega))
  replace HR := hid (show Box W (w.heap.size + 1) zero6 27 by rw [hW]; exact HR.out.kept put6_kept (by simp; omega))
  replace HO := hid (show Box W k5 #[.int .i64 op, .bool g, .slice N0 nn0 nc0, str nm, .int .i64 so, .slice none 0 0] 27 by rw [hW]; exact (((((HO.out.setAt 0 _).setAt 1 _).setAt 2 _).setAt 3 _).setAt 4 _).setAt 5 _)
  replace E := hid (show Ext w W by rw [hW]; exact put6_ext E.out (by omega))
  clear hW a0 a1 a2 a3 a4 a5 f0 f1 f2 f3 f4 f5 hz5
  go_upto_region 2 with (fail)
  refine wp_region_S [(0, 0), (1, 0), (2, 0), (3, 1), (4, 0), (5, 0), (6, 4)] fun wd2 hb => ?_
  replace E := hid (E.out.trans hb)
  replace HB := hid (HB.out.up hb)
  replace HR := hid (HR.out.up hb)
  replace HO := hid (HO.out.up hb)
  have hO0 := HO.out.lt
  clear hb
  refine WE.p 18 (.pointer (some ⟨w.heap.size, 1, none⟩)) ?_
  simp only [Act.put, pA, pB, pC]
  refine WE.p 19 (.pointer (some ⟨w.heap.size, 2, none⟩)) ?_
  simp only [Act.put, pA, pB, pC]
  refine WE.q 20 (.slice N0 nn0 nc0) rfl (fun w' hk => by have ce := (HB.out.up hk).k 2; go_simp) ?_
  simp only [Act.put, pA, pB, pC]
  obtain ⟨vN, w4, hrun, hOw, hE4⟩ := appU_nil (HN.out.up E.out) HLS.out 22
  refine WE.act (d := some 21) rfl rfl (by rfl) (kexec_app (.const (.slice none 0 0)) (.tmp 20) rfl rfl rfl hrun) hE4 ?_
  obtain ⟨N1, nn1, nc1, rfl⟩ : ∃ N1 nn1 nc1, vN = .slice N1 nn1 nc1 := by
   obtain ⟨A1, c1, h1, -, -⟩ := kshape hOw.1
   exact ⟨A1, _, c1, h1⟩
  replace E := hid (E.out.trans hE4)
  replace HR := hid (HR.out.up hE4)
  replace HO := hid (HO.out.up hE4)
  have HNW := hid (show LNum (gp (mdP (w.heap.size + 2) k5 k5) w4) (.slice N1 nn1 nc1) ls from own_ghost hOw fun b h1 h2 => ⟨by omega, by omega, by omega⟩)
  clear hrun hOw hE4
  simp only [Act.put, pA, pB, pC]
  refine WE.p 22 (.pointer (some ⟨k5, 1, none⟩)) ?_
  simp only [Act.put, pA, pB, pC]
  refine WE.p 23 (.pointer (some ⟨k5, 2, none⟩)) ?_
  simp only [Act.put, pA, pB, pC]
  have hc2 := HO.out.k 2
  have hf2 := HO.out.free 2
  have hlt5 := HO.out.lt
  refine WE.store (w' := w4.setCell ⟨k5, 2, none⟩ (.slice N1 nn1 nc1)) rfl rfl (by rfl) (by go_simp) (by simp) ?_
  refine WE.done ?_
  obtain ⟨W, hW⟩ : ∃ W, W = w4.setCell ⟨k5, 2, none⟩ (.slice N1 nn1 nc1) := ⟨_, rfl⟩
  rw [← hW]
  replace HR := hid (show Box W (w.heap.size + 1) zero6 27 by rw [hW]; exact HR.out.far (show w.heap.size + 1 ≠ k5 by omega) _)
  replace HO := hid (show Box W k5 #[.int .i64 op, .bool g, .slice N1 nn1 nc1, str nm, .int .i64 so, .slice none 0 0] 27 by rw [hW]; exact HO.out.setAt 2 _)
  replace E := hid (show Ext w W by rw [hW]; exact E.out.set' (by show w.heap.size ≤ k5; omega) _)
  replace HNW := hid (show LNum (gp (mdP (w.heap.size + 2) k5 k5) W) (.slice N1 nn1 nc1) ls by
   rw [hW]
   exact HNW.out.sub (gp_mono (by simp) fun b hb hp => ⟨hp, Below.heap_setCell _ _ _ _ (show b ≠ k5 from hp.2.1)⟩))
  clear hW HB hc2 hf2 hlt5 hO0 hB0
  go_upto_region 3 with (fail)
  refine wp_region_S [(0, 0), (1, 1), (2, 0), (3, 4)] fun wd3 hb => ?_
  replace E := hid (E.out.trans hb)
  replace HR := hid (HR.out.up hb)
  replace HO := hid (HO.out.up hb)
  replace HNW := hid (HNW.out.sub (gp_mono (q := mdP (w.heap.size + 2) k5 k5) hb.size fun b h1 h2 => ⟨h2, hb.block b h1⟩))
  have hO0 := HO.out.lt
  clear hb
  refine WE.p 24 (.slice A n c) ?_
  simp only [Act.put, pA, pB, pC]
  obtain ⟨A1, c1, w5, hrun, hE5, hc1, hc2, hrow⟩ := appT_nil (HK.out.up E.out) (by have := HLC.out; have := HF2.out; have := HNN.out; omega) 25
  refine WE.act (d := some 25) rfl rfl (by rfl) (kexec_app (.const (.slice none 0 0)) (.tmp 24) rfl rfl rfl hrun) hE5 ?_
  obtain ⟨gk, cur0, hgk5, hgA, hrow2⟩ : ∃ gk cur0, wd3.heap.size ≤ gk ∧ (n ≠ 0 → A1 = some ⟨gk, 0, none⟩) ∧ (n ≠ 0 → Box w5 gk cur0 27 ∧ n * 6 ≤ cur0.size) := by
   by_cases hn0 : n = 0
   ·exact ⟨wd3.heap.size, #[], Nat.le_refl _, fun h => absurd hn0 h, fun h => absurd hn0 h⟩
   ·obtain ⟨gk, cur, h1, h2, h3, h4⟩ := hrow hn0
    exact ⟨gk, cur, h2, fun _ => h1, fun _ => ⟨h3, h4⟩⟩
  replace E := hid (E.out.trans hE5)
  replace HR := hid (HR.out.up hE5)
  replace HO := hid (HO.out.up hE5)
  replace HNW := hid (HNW.out.sub (gp_mono (q := mdP (w.heap.size + 2) k5 gk) hE5.size fun b h1 h2 => ⟨⟨h2.1, h2.2.1, by omega⟩, hE5.block b h1⟩))
  have hgk5' : k5 < gk := by omega
  have HRW := hid hrow2
  have HGA := hid hgA
  have hc1' : c1 ≤ 9223372036854775807 := by unfold maxLen at hc2; omega
  have HCM1 := hid hc2
  clear hrun hE5 hc2 hrow hrow2 hgA hgk5 hO0
  simp only [Act.put, pA, pB, pC]
  refine WE.p 26 (.pointer (some ⟨k5, 5, none⟩)) ?_
  simp only [Act.put, pA, pB, pC]
  have hc5 := HO.out.k 5
  have hf5 := HO.out.free 5
  have hlt5 := HO.out.lt
  refine WE.store (w' := w5.setCell ⟨k5, 5, none⟩ (.slice A1 n c1)) rfl rfl (by rfl) (by go_simp) (by simp) ?_
  refine WE.done ?_
  obtain ⟨W, hW⟩ : ∃ W, W = w5.setCell ⟨k5, 5, none⟩ (.slice A1 n c1) := ⟨_, rfl⟩
  rw [← hW]
  have HRd := hid (show RoundMd w k5 gk op g N1 nn1 nc1 nm so A1 n c1 ls ks 0 W by
   refine ⟨?_, ?_, ?_, ?_, fun hn0 => ?_⟩
   ·rw [hW]; exact HR.out.far (show w.heap.size + 1 ≠ k5 by omega) _
   ·rw [hW]; exact HO.out.setAt 5 _
   ·rw [hW]; exact HNW.out.sub (gp_mono (by simp) fun b hb hp => ⟨hp, Below.heap_setCell _ _ _ _ (show b ≠ k5 from hp.2.1)⟩)
   ·rw [hW]; exact E.out.set' (by show w.heap.size ≤ k5; omega) _
   ·obtain ⟨h1, h2⟩ := HRW.out hn0
    exact ⟨cur0, by rw [hW]; exact h1.far (show gk ≠ k5 by omega) _, h2, fun j t hj => by omega⟩)
  clear hW hc5 hf5 hlt5 HR HO HNW E HRW
  go_wp2_with fail
  go_loopw [29] (fun i wr => ∃ (k : Nat), i = .int .i64 (k : Int) ∧ k ≤ n ∧ Hid (RoundMd w k5 gk op g N1 nn1 nc1 nm so A1 n c1 ls ks k wr)) (fun i _ => n - (intOf i).toNat)
  case atStart => exact ⟨0, rfl, Nat.zero_le _, HRd.out⟩
  case round =>
   clear HRd
   obtain ⟨k, rfl, hkn, hR⟩ := hrel
   obtain ⟨hR, hO, hNW, hE, hrow⟩ := hR.out
   have E := hid hE
   have HR := hid hR
   have HO := hid hO
   have HNW := hid hNW
   have HRW := hid hrow
   clear hR hO hNW hE hrow
   rcases Nat.lt_or_ge k n with hlt | hge
   ·have hlt' : (k : Int) < (n : Int) := by omega
    obtain ⟨ad, u, N', nn', nc', B, d, rfl, hu, ⟨c0, c1', c2, c3, c4, c5⟩, hv⟩ := (HK.out.up E.out).get hlt
    have HU := hid hu
    have hvn := hv.num
    have HV1 := hid hvn.1
    have HV2 := hid hvn.2
    have hkf := M.kfew_parts (M.kfews_at HFW.out HU.out)
    have huc := M.kcnt_kids u
    have hua := M.kcnts_at HU.out
    have HCM := hid (show ∀ w', Ext wr w' → Calls Tryd.prog 56 #[kv u.op u.g N' nn' nc' u.name u.sort B u.kids.length d, .slice B u.kids.length d] w' (GivesTN w' u) from fun w' e => by
     have h1 := HF.out
     have h2 := HF2.out
     have := IH.out (ks := u.kids) (op := u.op) (g := u.g) (ls := u.ls) (nm := u.name) (so := u.sort) (A0 := B) (n0 := u.kids.length) (c0 := d) (by omega) (by omega) hkf.2.2 (by omega) (by omega) (HV1.out.up e) (HV2.out.up e)
     rwa [← M.Tm.eta u] at this)
    have hA1 := HGA.out (by omega)
    subst hA1
    obtain ⟨cur, hcur, hcsz, hcel⟩ := HRW.out (by omega)
    have HCU := hid hcur
    have HCE := hid hcel
    obtain ⟨p, hp⟩ : ∃ p, k * 6 = p := ⟨_, rfl⟩
    have hps : p + 6 ≤ cur.size := by omega
    have HP := hid hp
    clear hp hu hv hvn hkf huc hua hcur hcel HRW
    have HKB := hid (show Box (wr.alloc (.cells #[.int .i64 u.op, .bool u.g, .slice N' nn' nc', str u.name, .int .i64 u.sort, .slice B u.kids.length d] 27)) wr.heap.size #[.int .i64 u.op, .bool u.g, .slice N' nn' nc', str u.name, .int .i64 u.sort, .slice B u.kids.length d] 27 from Box.new _ _ _)
    have hgsz := HCU.out.lt
    go_wp2_with fail
    refine wp_region_D [(0, 0), (1, 0), (2, 0), (3, 0), (4, 0), (5, 0), (6, 1), (7, 0), (8, 4)] fun wd hb => ?_
    have EW := hid ((Ext.alloc wr (.cells #[.int .i64 u.op, .bool u.g, .slice N' nn' nc', str u.name, .int .i64 u.sort, .slice B u.kids.length d] 27)).trans hb)
    replace HKB := hid (HKB.out.up hb)
    clear hb c0 c1' c2 c3 c4 c5
    replace HR := hid (HR.out.up EW.out)
    replace HO := hid (HO.out.up EW.out)
    replace HCU := hid (HCU.out.up EW.out)
    refine WE.p 34 (.pointer (some ⟨k5, 5, none⟩)) ?_
    simp only [Act.put, pA, pB, pC]
    refine WE.q 35 (.slice (some ⟨gk, 0, none⟩) n c1) rfl (fun w' hk => by have ce := (HO.out.up hk).k 5; go_simp) ?_
    simp only [Act.put, pA, pB, pC]
    refine WE.p 36 (.int .i64 (k : Int)) ?_
    simp only [Act.put, pA, pB, pC]
    refine WE.q 37 (kv u.op u.g N' nn' nc' u.name u.sort B u.kids.length d) rfl (fun w' hk => by obtain ⟨⟨b0, b1, b2, b3, b4, b5⟩, -, -⟩ := boxF6 (HKB.out.up hk); go_simp) ?_
    simp only [Act.put, pA, pB, pC]
    refine WE.p 38 (.pointer (some ⟨wr.heap.size, 5, none⟩)) ?_
    simp only [Act.put, pA, pB, pC]
    refine WE.q 39 (.slice B u.kids.length d) rfl (fun w' hk => by have ce := (HKB.out.up hk).k 5; go_simp) ?_
    simp only [Act.put, pA, pB, pC]
    refine WE.c 40 ((HCM.out _ EW.out).mono ?_)
    rintro e w2 ⟨v2, rfl, hv2, hb⟩
    refine ⟨_, rfl, hb, ?_⟩
    have hgw : gk < wd.heap.size := HCU.out.lt
    have hkw : k5 < wd.heap.size := HO.out.lt
    have HV3 := hid (hv2.sub (gp_mono (q := mdP (w.heap.size + 2) k5 gk) (Nat.le_refl _) fun b h1 h2 => ⟨⟨by omega, by omega, by omega⟩, rfl⟩))
    replace EW := hid (EW.out.trans hb)
    replace HR := hid (HR.out.up hb)
    replace HO := hid (HO.out.up hb)
    replace HCU := hid (HCU.out.up hb)
    clear hb hv2 hgw hkw
    simp only [Act.put, pA, pB, pC]
    refine WE.q 41 (.pointer (some ⟨gk, p, none⟩)) rfl (fun w' hk => by have hp := HP.out; go_simp) ?_
    simp only [Act.put, pA, pB, pC]
    obtain ⟨N2, nn2, nc2, A2, n2, c2, rfl, -, -, -, -, -, -⟩ := HV3.out.shape
    obtain ⟨y0, q0⟩ : ∃ y, cur[p]? = some y := ⟨_, Array.getElem?_eq_getElem (by omega)⟩
    obtain ⟨y1, q1⟩ : ∃ y, cur[p + 1]? = some y := ⟨_, Array.getElem?_eq_getElem (by omega)⟩
    obtain ⟨y2, q2⟩ : ∃ y, cur[p + 2]? = some y := ⟨_, Array.getElem?_eq_getElem (by omega)⟩
    obtain ⟨y3, q3⟩ : ∃ y, cur[p + 3]? = some y := ⟨_, Array.getElem?_eq_getElem (by omega)⟩
    obtain ⟨y4, q4⟩ : ∃ y, cur[p + 4]? = some y := ⟨_, Array.getElem?_eq_getElem (by omega)⟩
    obtain ⟨y5, q5⟩ : ∃ y, cur[p + 5]? = some y := ⟨_, Array.getElem?_eq_getElem (by omega)⟩
    replace q0 := HCU.out.cell q0
    replace q1 := HCU.out.cell q1
    replace q2 := HCU.out.cell q2
    replace q3 := HCU.out.cell q3
    replace q4 := HCU.out.cell q4
    replace q5 := HCU.out.cell q5
    have f0 := HCU.out.free p
    have f1 := HCU.out.free (p + 1)
    have f2 := HCU.out.free (p + 2)
    have f3 := HCU.out.free (p + 3)
    have f4 := HCU.out.free (p + 4)
    have f5 := HCU.out.free (p + 5)
    have hgz := HCU.out.lt
    refine WE.store (w' := put6A w2 gk p (.int .i64 u.op) (.bool u.g) (.slice N2 nn2 nc2) (str u.name) (.int .i64 u.sort) (.slice A2 n2 c2)) rfl rfl (by rfl) (by go_simp) (by simp) ?_
    refine WE.done ?_
    obtain ⟨W, hW⟩ : ∃ W, W = put6A w2 gk p (.int .i64 u.op) (.bool u.g) (.slice N2 nn2 nc2) (str u.name) (.int .i64 u.sort) (.slice A2 n2 c2) := ⟨_, rfl⟩
    rw [← hW]
    have HRd := hid (show RoundMd w k5 gk op g N1 nn1 nc1 nm so (some ⟨gk, 0, none⟩) n c1 ls ks (k + 1) W by
     have hG : ∀ b, b < w2.heap.size → mdP (w.heap.size + 2) k5 gk b → W.heap[b]? = w2.heap[b]? := fun b _ hp => by rw [hW]; exact put6A_far hp.2.2
     have hGS : Sub (gp (mdP (w.heap.size + 2) k5 gk) w2) (gp (mdP (w.heap.size + 2) k5 gk) W) := gp_mono (by rw [hW, put6A_size]; exact Nat.le_refl _) fun b h1 h2 => ⟨h2, hG b h1 h2⟩
     have hGE : Sub (gp (mdP (w.heap.size + 2) k5 gk) wr) (gp (mdP (w.heap.size + 2) k5 gk) w2) := gp_mono EW.out.size fun b h1 h2 => ⟨h2, EW.out.block b h1⟩
     refine ⟨?_, ?_, HNW.out.sub (hGE.trans hGS), ?_, fun _ => ?_⟩
     ·rw [hW]; exact (put6A_far (by omega)).trans HR.out
     ·rw [hW]; exact (put6A_far (by omega)).trans HO.out
     ·rw [hW]; exact put6A_ext (E.out.trans EW.out) (by omega)
     ·refine ⟨_, by rw [hW]; exact put6A_box HCU.out, by rw [cur6_size]; omega, fun j t hj ht => ?_⟩
      have hpk := HP.out
      rcases Nat.lt_or_ge j k with hjk | hjk
      ·exact ((HCE.out j t hjk ht).sub (hGE.trans hGS)).off (by omega)
      ·obtain rfl : j = k := by omega
       obtain rfl : t = u := by rw [HU.out] at ht; injection ht with ht; exact ht.symm
       rw [hpk]
       obtain ⟨z0, z1, z2, z3, z4, z5⟩ := cur6_at (x0 := .int .i64 t.op) (x1 := .bool t.g) (x2 := .slice N2 nn2 nc2) (x3 := str t.name) (x4 := .int .i64 t.sort) (x5 := .slice A2 n2 c2) hps
       exact ⟨N2, nn2, nc2, _, ⟨z0, z1, z2, z3, z4, z5⟩, HV3.out.num.1.sub hGS, HV3.out.num.2.sub hGS⟩)
    clear hW q0 q1 q2 q3 q4 q5 f0 f1 f2 f3 f4 f5 hgz HR HO HNW E EW HV3 HCU HCE HKB
    go_wp2_with fail
    go_roundw
    case rel => exact ⟨k + 1, by simp, by omega, HRd.out⟩
    case measure => simp [intOf]; omega
   ·obtain rfl : k = n := by omega
    obtain ⟨⟨b0, b1, b2, b3, b4, b5⟩, -, hzo⟩ := boxF6 HO.out
    obtain ⟨⟨r0, r1, r2, r3, r4, r5⟩, ⟨f0, f1, f2, f3, f4, f5⟩, hzr⟩ := boxF6 HR.out
    go_wp2_with fail
    refine bodyPost_ret (v := kv op g N1 nn1 nc1 nm so A1 k c1) (by simp [results, Tryd.results56, go_sem, r0, r1, r2, r3, r4, r5, hzr]) rfl ?_
    have hGS : Sub (gp (mdP (w.heap.size + 2) k5 gk) wr) (gp (fun b => w.heap.size ≤ b) (put6 wr (w.heap.size + 1) (.int .i64 op) (.bool g) (.slice N1 nn1 nc1) (str nm) (.int .i64 so) (.slice A1 k c1))) :=
     gp_mono (by simp) fun b h1 h2 => ⟨by have := h2.1; omega, put6_kept.2 b h1 (by simp; have := h2.1; omega)⟩
    refine ⟨_, rfl, ⟨N1, nn1, nc1, A1, c1, by rw [← HNN.out]; rfl, HNW.out.sub hGS, ?_⟩, put6_ext E.out (by omega)⟩
    show Tms _ ks (.slice A1 ks.length c1)
    rw [HNN.out]
    refine Tms.mk_ ⟨_, _, _, rfl, HNN.out.symm, hc1, HCM1.out, fun hne => ?_⟩
    have hk0 : k ≠ 0 := fun e => hne (List.eq_nil_of_length_eq_zero (HNN.out.trans e))
    obtain ⟨cur, h1, h2, h3⟩ := HRW.out hk0
    refine ⟨_, HGA.out hk0, by rw [gp_size, (show (put6 wr (w.heap.size + 1) (.int .i64 op) (.bool g) (.slice N1 nn1 nc1) (str nm) (.int .i64 so) (.slice A1 k c1)).heap.size = wr.heap.size by simp)]; exact h1.lt, fun j t hj => ?_⟩
    have hjk : j < k := by
     obtain ⟨h, _⟩ := List.getElem?_eq_some_iff.1 hj
     rw [HNN.out] at h; exact h
    obtain ⟨N, nn, nc, v, ⟨z0, z1, z2, z3, z4, z5⟩, hn, hkd⟩ := h3 j t hjk hj
    have hbx : Box (put6 wr (w.heap.size + 1) (.int .i64 op) (.bool g) (.slice N1 nn1 nc1) (str nm) (.int .i64 so) (.slice A1 k c1)) gk cur 27 := h1.kept put6_kept (by simp; omega)
    have key : ∀ o x, cur[o]? = some x → (gp (fun b => w.heap.size ≤ b) (put6 wr (w.heap.size + 1) (.int .i64 op) (.bool g) (.slice N1 nn1 nc1) (str nm) (.int .i64 so) (.slice A1 k c1))).cell? ⟨gk, o, none⟩ = some x := fun o x hx => gp_cell.2 ⟨by show w.heap.size ≤ gk; omega, hbx.cell hx⟩
    rw [M.Tm.eta t, Addr.add_lit, Nat.zero_add]
    refine tmAt_mk.2 ⟨N, nn, nc, v, ⟨⟨key _ _ z0, ?_, ?_⟩, ?_, ?_, ?_⟩, hn.sub hGS, hkd.sub hGS⟩
    ·rw [Addr.add_lit]; exact key _ _ z1
    ·rw [Addr.add_lit]; exact key _ _ z2
    ·rw [Addr.add_lit]; exact key _ _ z3
    ·rw [Addr.add_lit]; exact key _ _ z4
    ·rw [Addr.add_lit]; exact key _ _ z5
end Go.Proofs.YtaoboilkpgphaaaDoor.Q
