/-
  Contract of digits.Nat: whatever row of limbs: its decimal digits.
-/
import Derived.Test.YthlafkbldlmmaaaDoorTBack
import Derived.Test.YthlafkbldlmmaaaDoorTFmt
import Derived.Test.YthlafkbldlmmaaaDoorHeld
import Derived.Maps.AppendAt
import Derived.Test.YthlafkbldlmmaaaDoorRefMul
namespace Go.Proofs.YthlafkbldlmmaaaDoor
set_option linter.unusedSimpArgs false
set_option linter.unusedVariables false
open Go.RowKit Go.Shelf
attribute [local go_sem] Oper.semAt_some

theorem own_low {w : World} {B k j : Nat} {e : TypeId} {size : Nat} {v : Value} {xs : List Value} (h : w.ownsRow B e size v k xs) (he : v.ownBlock = some j) : B ≤ j := by
  rcases h.2 with ⟨rfl, _⟩ | ⟨g, cap, cur, rfl, hb, _, _⟩
  · simp [Value.ownBlock] at he
  · obtain rfl : g = j := by simpa [Value.ownBlock] using he
    exact hb
theorem Box.one {w : World} {g : Nat} {v : Value} {t : TypeId} (h : Box w g #[v] t) : ∀ (j : Nat) u, [v][j]? = some u → w.cell? ((⟨g, 0, none⟩ : Addr).add j) = some u := by
  intro j u hj
  rcases j with _ | j
  · simp at hj; subst hj; rw [Addr.add_lit]; exact h.cell (o := 0) rfl
  · simp at hj
/-- What a call owns it owns behind a call that turns nothing. -/
theorem ownsRow_up {w w' : World} {B k : Nat} {e : TypeId} {size : Nat} {v : Value} {xs : List Value} (h : w.ownsRow B e size v k xs) (hb : Ext w w') : w'.ownsRow B e size v k xs :=
  h.kept (row := none) ⟨hb.os, hb.tape, hb.output, hb.size, fun k hk _ => hb.block k hk⟩ (by cases v.ownBlock <;> simp)
def OwnS (B : Nat) (w : World) (v : Value) (n : Nat) (xs : List Value) : Prop := w.ownsRow B 9 1 v n xs
theorem OwnS.up {B n : Nat} {w w' : World} {v : Value} {xs : List Value} (h : OwnS B w v n xs) (hb : Ext w w') : OwnS B w' v n xs := ownsRow_up h hb
theorem wp_at {P : Program} {code : Code} {Q : Exit → Act → World → Prop} {a : Act} {W : World} (X : World → Prop) (h : X W) (k : ∀ W, X W → code.wp P Q a W) : code.wp P Q a W := k W h
section
variable {P : Program} {ops : Array Oper} {Q : Exit → Act → World → Prop} {A : Nat → TypeId × Array Value} {B : Nat} {G : List Nat} {i : Nat} {r : List (Nat × Nat)} {a : Act} {w : World} {o : Oper} {d : Option Tmp}
theorem WE.appS (ho : ops[i]? = some o) (hd : o.dst = d) (hw : Region.wanted o (yielded ops a.tmps) = true) (s x : Operand) (t : TypeId)
    (hop : o.op = .call { callee := .builtin .append, args := #[s, x], argTypes := #[t, t] })
    (base : Nat) (e : TypeId) (i0 : TypeInfo) (z : Value) (bytes : Nat) (ht : P.underlying t = some (.slice e)) (hi : P.info? e = some i0) (hz : i0.zero = some z)
    (hsize : i0.size = 1) (hby : i0.bytes = bytes) (hzs : z.cells.size = 1)
    (v : Value) (n : Nat) (xs : List Value) (hs : a.eval s = v) (hown : w.ownsRow base e 1 v n xs)
    (ad : Addr) (m c : Nat) (news : List Value) (hx : a.eval x = .slice (some ad) m c) (hl : news.length = m * 1) (hnews : ∀ j u, news[j]? = some u → w.cell? (ad.add j) = some u) (h1 : ∀ u ∈ news, u.oneCell' = true)
    (h63 : n + m ≤ maxLen) (hbytes : (n + m) * bytes ≤ 140737488355328) (hbase : base ≤ w.heap.size)
    (h : ∀ v' w', w'.ownsRow base e 1 v' (n + m) (xs ++ news) → w.grownBy w' v.ownBlock → WE P ops Q A B r G (a.put d v') w') : WE P ops Q A B ((i, 4) :: r) G a w := by
  subst hd
  unfold WE wpOp
  simp only [ho, hw, if_true]
  refine .inl ?_
  exact wp_append_own w s x t hop base e i0 z 1 bytes ht hi hz hsize hby hzs (by decide) v n xs hs hown ad m c news hx hl hnews h1 h63 hbytes hbase fun v' w' h2 h3 _ => ⟨h3.size, h v' w' h2 h3⟩
end
theorem Num.row {w : World} {C : Nat} {A : Option Addr} {n c : Nat} {l : List Nat} (h : Num w C (.slice A n c) l) : Row w C A l ∧ n = l.length := by
  obtain ⟨A', n', c', e, hn, _, _, _, hr⟩ := h
  injection e with e1 e2 e3
  subst e1 e2
  exact ⟨hr, hn⟩
theorem pieces_of {l : List Nat} {h x : Nat} (hn : h + 1 = l.length) (hx : l[h]? = some x) {ys : List (Nat × U32)} (hys : ys.map (fun y => y.2.1) = (l.take h).reverse) :
    (Lib.decDigits x :: ys.map (fun y => M.nine y.2.1)) = M.pieces l := by
  have e1 : l.getLast? = some x := by rw [List.getLast?_eq_getElem?, show l.length - 1 = h by omega]; exact hx
  have e2 : l.dropLast = l.take h := by rw [List.dropLast_eq_take, show l.length - 1 = h by omega]
  unfold M.pieces
  rw [e1, e2, ← hys, List.map_map]
  rfl
theorem M.dec_room (l : List Nat) : Go.Lib.nDigits (M.nv l) ≤ 9 * l.length + 1 := by
  refine M.nDigits_le (by omega) ?_
  have h := M.nv_lt l
  rw [show (1000000000 : Nat) = 10 ^ 9 by decide, ← Nat.pow_mul] at h
  exact Nat.lt_of_lt_of_le h (Nat.pow_le_pow_right (by decide) (by omega))
theorem own_room {W : World} {base k g c : Nat} {e : TypeId} {xs : List Value} (h : W.ownsRow base e 1 (.slice (some ⟨g, 0, none⟩) k c) k xs) : g < W.heap.size ∧ k ≤ c := by
  rcases h.2 with ⟨h1, _⟩ | ⟨g', cap, cur, h1, _, hg, hc, _⟩
  · cases h1
  · injection h1 with h1 h2 h3
    injection h1 with h1
    injection h1 with h1
    subst h1 h3
    exact ⟨(Array.getElem?_eq_some_iff.1 hg).1, hc⟩
theorem wpIn_append_run {F : Fence} {n : Nat} {P : Program} {w : World} {o : Oper} {a : Act} {K : Act → World → Prop} {Q : Exit → Act → World → Prop} (s x : Operand) (t : TypeId) (hop : o.op = Op.call { callee := Callee.builtin Builtin.append, args := #[s, x], argTypes := #[t, t] })
    (v : Value) (hs : a.eval s = v) (u : Value) (hx : a.eval x = u) {v' : Value} {w' : World} (hrun : (Builtin.append_ #[t, t] o.type #[v, u]).run P w = .ok v' w') (h : K (a.put o.dst v') w') : o.wpIn F n P a w K Q := by
  unfold Oper.wpIn
  refine ⟨?_, ?_⟩
  · simp [Oper.about, hop, resolve, Target.leads, Sem.run_pure]
  · rw [Oper.semAt_plain F _ _ (by rw [hop]; intro c hc'; cases hc')]
    simp [execOp, hop, resolve, invoke, builtin, hs, hx, hrun, Result.andThen]
    exact h
def noPanic (Q : Exit → Act → World → Prop) : Exit → Act → World → Prop
  | .panic _, _, _ => False
  | e, a, w => Q e a w
theorem noPanic_le {Q : Exit → Act → World → Prop} : ∀ e a w, noPanic Q e a w → Q e a w
  | .panic _, _, _, h => h.elim
  | .normal, _, _, h => h
  | .ret, _, _, h => h
  | .outgrown, _, _, h => h
  | .exit _, _, _, h => h
  | .goto _, _, _, h => h
theorem join_flat : ∀ xs : List (List UInt8), Lib.join xs [] = xs.flatten
  | [] => rfl
  | x :: r => by
    rw [Lib.join_cons]
    unfold Lib.joinTail
    simp
theorem info_str : (Tryd.prog.info? 9).map (fun i => (i.zero, i.size, i.bytes)) = some (some (.string ⟨#[]⟩), 1, 16) := by kernel_rfl
theorem together_n {w : World} (bk o c : Nat) (xs : List (List UInt8)) (hcells : ∀ (j : Nat) x, xs[j]? = some x → w.cell? ⟨bk, o + j, none⟩ = some (str x)) (hbk : bk < w.heap.size) (hN : xs.length ≤ 140737488355328) (hcap : xs.length ≤ c) (hlen : xs.flatten.length ≤ 140737488355328) :
    Calls Tryd.prog 31 #[.slice (some ⟨bk, o, none⟩) xs.length c] w (GivesT w xs.flatten) := by
  have e : (xs.map fun x => (⟨x.toArray⟩ : ByteArray)).map (fun x => x.data.toList) = xs := by
    rw [List.map_map]; conv => rhs; rw [← List.map_id xs]
    exact List.map_congr_left fun x _ => rfl
  have h := Tryd.strings_Join bk o c (xs.map fun x => (⟨x.toArray⟩ : ByteArray)) ⟨#[]⟩ w (fun j x hx => by
    rw [List.getElem?_map] at hx
    obtain ⟨y, hy, rfl⟩ := Option.map_eq_some_iff.1 hx
    exact hcells j y hy) hbk (by simpa using hN) (by simpa using hcap) (by rw [e, join_flat]; exact hlen)
  rw [e, join_flat, List.length_map] at h
  go_enter Tryd.func31, Tryd.ntmps31
  go_wp2_with (go_at_call 50; refine h.mono ?_; rintro e w' ⟨rfl, hb⟩)
  go_ret
  exact ⟨rfl, hb⟩
def zerosS (c : Nat) : Array Value := (List.replicate c (Value.string ⟨#[]⟩)).toArray
theorem made_zerosS (c : Nat) : madeCells (Value.string ⟨#[]⟩).cells (c * 1) = zerosS c := by
  apply Array.ext'
  rw [zerosS, Nat.mul_one]
  apply List.ext_getElem?
  intro i
  simp [madeCells, Value.cells, List.getElem?_replicate, Nat.mod_one]
  by_cases h : i < c <;> simp [h]
set_option maxRecDepth 100000 in
theorem make_str (b : Nat) (hb : b ≤ 1000000000) (w : World) :
    (Instr.makeSlice 55 (.int .i64 0) (.int .i64 (b : Int))).run Tryd.prog w = .ok (.slice (some ⟨w.heap.size, 0, none⟩) 0 b) (w.alloc (.cells (zerosS b) 9)) := by
  obtain ⟨i0, hi, hz0, hz1, hz2⟩ := info_parts info_str
  have := run_make (P := Tryd.prog) w 55 9 i0 (.string ⟨#[]⟩) Tryd.underlying55 hi hz0 .i64 .i64 0 (b : Int) (by omega) (by omega) (by rw [hz2]; omega) (by omega)
  rw [this, hz1, Int.toNat_natCast, made_zerosS]
  rfl
set_option maxHeartbeats 4000000 in
set_option maxRecDepth 100000 in
theorem digitsNat_main {w : World} {A : Option Addr} {n c : Nat} {l : List Nat} (hv : Num w w.heap.size (.slice A n c) l) (hI : M.isNat l = true) (hne : l ≠ []) (hle : l.length ≤ 1000000) (ht : Tab w) :
    Calls Tryd.prog 13 #[.slice A n c] w (GivesT w (Lib.decDigits (M.nv l))) := by
  have HV := hid hv
  obtain ⟨A', n', c', e, hn, hc, hmx, hsm, hr⟩ := hv
  injection e with e1 e2 e3
  subst e1 e2 e3
  obtain ⟨h, rfl⟩ : ∃ h, n = h + 1 := ⟨n - 1, by have : l.length ≠ 0 := fun h => hne (List.eq_nil_of_length_eq_zero h); omega⟩
  obtain ⟨ad, x, rfl, had, HX, hcell⟩ := Row.get hr (k := h) (by omega)
  have HI := hid hI
  have HS := hid hsm
  have HN := hid hn
  have hx := hsm x (List.mem_of_getElem? HX.out)
  have hc9 : c ≤ 9223372036854775807 := by unfold maxLen at hmx; omega
  have hh : h + 1 ≤ 1000000 := by omega
  have HT := hid ht
  have HLE := hid hle
  have HNE := hid hne
  clear hI hsm hn ht hle hne hr hmx
  refine (callsIn_wide (n := 9)).1 (callsIn_of_wp_marks Tryd.func13 rfl trivial ?_ rfl)
  refine wpIn_wide.2 ?_
  simp only [Tryd.ntmps13, List.size_toArray, List.length_cons, List.length_nil, Nat.reduceAdd, Nat.reduceSub, Array.replicate_succ, Array.replicate_zero, List.push_toArray, List.append_toArray, List.nil_append, List.cons_append]
  have hmk := make_str (h + 1) (by omega) w
  rw [show ((h + 1 : Nat) : Int) = (h : Int) + 1 by omega] at hmk
  go_wp2_with (go_at_call 33; refine (isNat_l HV.out HI.out).mono ?_; rintro e wq ⟨rfl, rfl⟩)
  refine wp_at (fun W1 => Box W1 (w.heap.size + 1) #[.slice (some ⟨w.heap.size, 0, none⟩) 0 (h + 1)] 55 ∧ OwnS w.heap.size W1 (.slice (some ⟨w.heap.size, 0, none⟩) 0 (h + 1)) 0 [] ∧ Ext w W1) ⟨?_, ?_, ?_⟩ ?_
  · exact Box.at_ _ _ (by simp)
  · exact World.ownsRow.alloc (World.ownsRow_made w (zerosS (h + 1)) (h + 1) (base := w.heap.size) (e := 9) (size := 1) (Nat.le_refl _) (by unfold maxLen; omega) (by simp [zerosS])) _
  · exact ((Ext.refl w).alloc' _).alloc' _
  intro W1 ⟨hb4, how, he⟩
  have B4 := hid hb4
  have OW := hid how
  have E := hid he
  have KC := hid (show CellAt W1 (ad.add h) (.int .u32 (x : Int)) from CellAt.up (show CellAt w _ _ from hcell) he)
  have HT0 := HT
  replace HT := hid (HT.out.up he)
  clear hb4 how he hcell hmk
  refine Code.wp_mono (fun e a w => noPanic_le e a w) ?_
  refine wp_region_E [(0, 0), (1, 0), (2, 0), (3, 0), (4, 0), (5, 0), (6, 1), (7, 1), (8, 4), (9, 4)] (fun _ => (0, #[])) rfl (by kernel_rfl) (by intro j hj; cases hj) (fun _ _ d _ _ => by cases d <;> exact Iff.rfl) fun wd hb => ?_
  replace E := hid (E.out.trans hb)
  replace B4 := hid (B4.out.up hb)
  replace KC := hid (KC.out.up hb)
  replace HT := hid (HT.out.up hb)
  replace OW := hid (OW.out.up hb)
  clear hb
  refine WE.pure (d := some 21) rfl rfl (by rfl) (v := (.slice (some ⟨w.heap.size, 0, none⟩) 0 (h + 1))) (fun w' hk => ?_) ?_
  · have c0 := hk.cell (B4.out.cell (o := 0) (v := .slice (some ⟨w.heap.size, 0, none⟩) 0 (h + 1)) rfl); go_simp
  simp only [Act.put, List.setIfInBounds_toArray, List.set_cons_zero, List.set_cons_succ]
  refine WE.pure (d := some 22) rfl rfl (by rfl) (v := (.slice (some ad) (h + 1) c)) (fun w' hk => ?_) ?_
  · go_simp
  simp only [Act.put, List.setIfInBounds_toArray, List.set_cons_zero, List.set_cons_succ]
  refine WE.pure (d := some 23) rfl rfl (by rfl) (v := (.int .i64 (h : Int))) (fun w' hk => ?_) ?_
  · go_simp
  simp only [Act.put, List.setIfInBounds_toArray, List.set_cons_zero, List.set_cons_succ]
  refine WE.pure (d := some 24) rfl rfl (by rfl) (v := (.pointer (some (ad.add h)))) (fun w' hk => ?_) ?_
  · have hk1 : ((h : Int) + 1 ≤ (h : Int)) = False := (by simp; omega); go_simp
  simp only [Act.put, List.setIfInBounds_toArray, List.set_cons_zero, List.set_cons_succ]
  refine WE.pure (d := some 25) rfl rfl (by rfl) (v := (.int .u32 (x : Int))) (fun w' hk => ?_) ?_
  · have c0 : w'.cell? (ad.add h) = some (.int .u32 (x : Int)) := KC.out.up hk; go_simp
  simp only [Act.put, List.setIfInBounds_toArray, List.set_cons_zero, List.set_cons_succ]
  refine WE.pure (d := some 26) rfl rfl (by rfl) (v := (.int .u64 (x : Int))) (fun w' hk => ?_) ?_
  · have q1 : IntKind.u64.wrap (x : Int) = (x : Int) := (by rw [IntKind.wrap_u64]; omega); go_simp
  simp only [Act.put, List.setIfInBounds_toArray, List.set_cons_zero, List.set_cons_succ]
  refine WE.call (d := some 27) rfl rfl (by rfl) (f := 34) (args := #[(.int .u64 (x : Int)), (.int .i64 (10))]) (by go_simp) ?_
  refine (fmt_n x (by omega) _ HT.out).mono ?_
  rintro e wn ⟨rfl, hb⟩
  refine ⟨_, rfl, hb, ?_⟩
  replace E := hid (E.out.trans hb)
  replace B4 := hid (B4.out.up hb)
  replace KC := hid (KC.out.up hb)
  replace HT := hid (HT.out.up hb)
  replace OW := hid (OW.out.up hb)
  clear hb
  simp only [Act.put, List.setIfInBounds_toArray, List.set_cons_zero, List.set_cons_succ]
  refine WE.new (d := some 28) (cs := #[str (Lib.decDigits x)]) (t := 9) (v := fun g => (.slice (some ⟨g, 0, none⟩) 1 1)) rfl rfl (by rfl) (fun w => by go_simp) fun gL1 wv hx0 hbox hge => ?_
  have HNL1B4 := hid (show gL1 ≠ (w.heap.size + 1) by have := B4.out.lt; omega)
  have HGL1 := hid (show w.heap.size ≤ gL1 by have := E.out.size; omega)
  replace E := hid (E.out.trans hx0)
  replace B4 := hid (B4.out.up hx0)
  replace KC := hid (KC.out.up hx0)
  replace HT := hid (HT.out.up hx0)
  replace OW := hid (OW.out.up hx0)
  have L1 : Hid (Box wv gL1 #[str (Lib.decDigits x)] 9) := hid hbox
  clear hx0 hbox hge
  simp only [Act.put, List.setIfInBounds_toArray, List.set_cons_zero, List.set_cons_succ]
  obtain ⟨i0, hi, hz0, hz1, hz2⟩ := info_parts info_str
  refine WE.appS (d := some 29) rfl rfl (by rfl) (.tmp 21) (.tmp 28) 55 rfl w.heap.size 9 i0 (.string ⟨#[]⟩) 16 Tryd.underlying55 hi hz0 hz1 hz2 rfl _ _ _ rfl OW.out ⟨gL1, 0, none⟩ 1 1 [str (Lib.decDigits x)] rfl rfl (L1.out.one) (by simp [Value.oneCell']) (by unfold maxLen; simp) (by simp) E.out.size ?_
  intro v' ws hown' hgrow
  have hown' : ws.ownsRow w.heap.size 9 1 v' 1 [str (Lib.decDigits x)] := hown'
  obtain ⟨gv, cv, rfl⟩ := ownsRow_succ hown'
  have hb2 : Boxed ws (w.heap.size + 1) 55 _ := Boxed.kept (show Boxed _ _ _ _ from B4.out) hgrow ((show Boxed _ _ _ _ from B4.out).not_row (by decide) OW.out)
  have he2 : Ext w ws := Below.grown E.out hgrow E.out.size (fun k e => own_low OW.out e)
  replace B4 := hid (show Box ws (w.heap.size + 1) _ _ from hb2)
  replace OW := hid hown'
  replace E := hid he2
  clear hown' hgrow hb2 he2 L1 HGL1 HNL1B4 KC HT hi hz0 hz1 hz2
  simp only [Act.put, List.setIfInBounds_toArray, List.set_cons_zero, List.set_cons_succ]
  refine WE.store rfl rfl (by rfl) (w' := _) (by have c0 := B4.out.cell (o := 0) (v := .slice (some ⟨w.heap.size, 0, none⟩) 0 (h + 1)) rfl; have f0 := B4.out.free 0; go_simp; rfl) (by simp) ?_
  refine WE.done ?_
  obtain ⟨h1, h2⟩ := (show (Boxed _ (w.heap.size + 1) 55 (.slice (some ⟨gv, 0, none⟩) 1 cv)) ∧ _ from ⟨Boxed.set (.slice (some ⟨gv, 0, none⟩) 1 cv) (show Boxed _ _ _ _ from B4.out), OW.out.kept (grownBy_setCell' _ (w.heap.size + 1) (.slice (some ⟨gv, 0, none⟩) 1 cv)) (.inr ((show Boxed _ _ _ _ from B4.out).not_row (by decide) OW.out).symm)⟩)
  have h3 : Ext w (World.setCell _ ⟨w.heap.size + 1, 0, none⟩ (.slice (some ⟨gv, 0, none⟩) 1 cv)) := E.out.set' (p := ⟨w.heap.size + 1, 0, none⟩) (Nat.le_succ _) _
  clear B4 OW E
  dsimp only [noPanic]
  go_wp2_with (go_at_call 35; refine (back_n _ _ _ _).mono ?_; rintro e w' ⟨rfl, rfl⟩)
  obtain ⟨Bs, hBs⟩ : ∃ Bs, Bs = ws.heap.size := ⟨_, rfl⟩
  rw [← hBs]
  refine wp_at (fun W3 => Boxed W3 (w.heap.size + 1) 55 (.slice (some ⟨gv, 0, none⟩) 1 cv) ∧ OwnS w.heap.size W3 (.slice (some ⟨gv, 0, none⟩) 1 cv) 1 [str (Lib.decDigits x)] ∧ Boxed W3 Bs 22 (.slice (some ad) h c) ∧ Ext w W3) ⟨h1.alloc _, World.ownsRow.alloc h2 _, ?_, h3.alloc' _⟩ ?_
  · have e : (ws.setCell ⟨w.heap.size + 1, 0, none⟩ (.slice (some ⟨gv, 0, none⟩) 1 cv)).heap.size = Bs := by rw [hBs]; simp
    rw [← e]
    exact Boxed.new _ _ _
  intro W3 ⟨b4, own, bs, ext⟩
  have hrow := HV.out.row.1
  have HX2 := HX
  clear h1 h2 h3 hBs HX
  refine (wpIn_wide (n := 9)).1 ?_
  refine wpIn_rangeFunc_ownG (F := Fence.wide) (n := 9) rfl (by decide) (gf := 52) (lb := #[.pointer (some ⟨Bs, 0, none⟩)]) rfl trivial (enters_of Tryd.func52 (by kernel_rfl) rfl)
    (back_stops Fence.wide 8 trivial rfl (by decide) Bs w.heap.size (some ad) h c (l.take h) (by rw [List.length_take]; have := HN.out; omega) (by omega) (hid fun y hy => HS.out y (List.mem_of_mem_take hy)) W3 bs.lt ext.size bs.cell ((hrow.take h).keep ext.below (Nat.le_refl _)))
    (fun h k => BackK.trans h k) (backK_b ext.size bs.lt) (Below.refl _ _) (fun _ => rfl)
    (fun (pre : List (Nat × U32)) W => ((∃ v, Boxed W (w.heap.size + 1) 55 v ∧ W.ownsRow w.heap.size 9 1 v (pre.length + 1) ((Lib.decDigits x :: pre.map (fun y => M.nine y.2.1)).map str) ∧ True) ∧ Boxed W Bs 22 (.slice (some ad) h c)) ∧ Below w.heap.size w W)
    (fun _ _ _ => False)
    (OwnFrom.and (OwnFrom.and (Own.from (holdsRow_own w.heap.size (w.heap.size + 1) 55 9 1 (fun (pre : List (Nat × U32)) => pre.length + 1) (fun pre => (Lib.decDigits x :: pre.map (fun y => M.nine y.2.1)).map str) (fun _ _ => True)) _) (Own.from (boxed_own Bs 22 (fun _ => .slice (some ad) h c)) _)) (ownFrom_below (Nat.le_refl _) ext.size))
    (fun _ _ _ _ _ hs _ _ => hs)
    ⟨⟨⟨_, b4, own, trivial⟩, bs⟩, ext⟩
    (fun y => { tmps := #[.slice (some ad) (h + 1) c, undef, .string ⟨#[]⟩, .int .i64 (h : Int), .pointer (some ⟨w.heap.size + 1, 0, none⟩), undef, .int .u32 (y.2.1 : Int), .slice (some ad) (h + 1) c, .int .i64 ((h : Int) + 1), .bool false, .bool false, .slice (some ad) (h + 1) c, .bool true, .bool false, .bool false, .slice (some ad) (h + 1) c, .int .i64 ((h : Int) + 1), .int .i64 (h : Int), .slice (some ad) (h + 1) c, .int .i64 ((h : Int) + 1), .slice (some ⟨w.heap.size, 0, none⟩) 0 (h + 1), .slice (some ⟨w.heap.size, 0, none⟩) 0 (h + 1), .slice (some ad) (h + 1) c, .int .i64 (h : Int), .pointer (some (ad.add h)), .int .u32 (x : Int), .int .u64 (x : Int), str (Lib.decDigits x), .slice (some ⟨gL1, 0, none⟩) 1 1, .slice (some ⟨gv, 0, none⟩) 1 cv, .slice (some ad) (h + 1) c, .int .i64 (h : Int), .slice (some ad) h c, .func (.func 52) #[] #[.pointer (some ⟨Bs, 0, none⟩)], .int .i64 (y.1 : Int), .int .u32 (y.2.1 : Int), undef, undef, undef, undef, undef, undef, undef], defers := [] }) ?assign ?body ?done ?stop
  case assign =>
    intro l' y W K hK
    gi_wp2
    exact hK
  case body =>
    rintro l' pre y W ⟨⟨⟨v, hb, ho, -⟩, hbs⟩, hB⟩ hpl
    obtain ⟨gq, cq, rfl⟩ := ownsRow_succ ho
    have hc1 := hb.cell
    have T := Tab.up HT0.out hB
    have hf1 := hb.frozen
    have mixed : Tryd.prog.follows .mixedOrders = true := by kernel_rfl
    have hne : Bs ≠ w.heap.size + 1 := by
      rintro rfl
      have h9 := (show W.heap[w.heap.size + 1]? = _ from hb).symm.trans hbs
      simp at h9
    have hpl' : pre.length < h + 1 := by rw [List.length_take] at hpl; omega
    obtain ⟨i0, hi, hz0, hz1, hz2⟩ := info_parts info_str
    have e1 : ((Lib.decDigits x :: (pre ++ [y]).map (fun y => M.nine y.2.1)).map str) = ((Lib.decDigits x :: pre.map (fun y => M.nine y.2.1)).map str) ++ [str (M.nine y.2.1)] := by simp
    have e2 : (pre ++ [y]).length + 1 = pre.length + 1 + 1 := by simp
    have HPL := hid hpl'
    have HE1 := hid e1
    have HE2 := hid e2
    clear hpl hpl' e1 e2
    have T' : Tab W.drew := T.up (Below.drew (Below.refl _ _))
    have hnine : ∀ R, (∀ w', Ext W.drew w' → R (.returned (str (M.nine y.2.1))) w') → CallsIn (Fence.wide.inRound l') 6 Tryd.prog 36 #[.int .u32 (y.2.1 : Int)] W.drew R := fun R hR => (CallsIn.inRound l' (callsIn_wide.2 (nine_n y.2.1 y.2.2 _ T'))).mono fun e w' ⟨he, hE⟩ => by subst he; exact hR _ hE
    have happ : ∀ w', Ext W.drew w' → ∃ g2 c2 w2, (Builtin.append_ #[55, 55] 55 #[.slice (some ⟨gq, 0, none⟩) (pre.length + 1) cq, .slice (some ⟨w'.heap.size, 0, none⟩) 1 1]).run Tryd.prog (w'.alloc (.cells #[str (M.nine y.2.1)] 9)) = .ok (.slice (some ⟨g2, 0, none⟩) (pre.length + 1 + 1) c2) w2 ∧
        Boxed w2 (w.heap.size + 1) 55 (.slice (some ⟨gq, 0, none⟩) (pre.length + 1) cq) ∧ Boxed w' (w.heap.size + 1) 55 (.slice (some ⟨gq, 0, none⟩) (pre.length + 1) cq) ∧
        ownPostG W3.heap.size (BackK Bs w.heap.size) (fun (pre : List (Nat × U32)) W => ((∃ v, Boxed W (w.heap.size + 1) 55 v ∧ W.ownsRow w.heap.size 9 1 v (pre.length + 1) ((Lib.decDigits x :: pre.map (fun y => M.nine y.2.1)).map str) ∧ True) ∧ Boxed W Bs 22 (.slice (some ad) h c)) ∧ Below w.heap.size w W) (fun _ _ _ => False) (pre ++ [y]) W .normal { tmps := #[], defers := [] } (w2.setCell ⟨w.heap.size + 1, 0, none⟩ (.slice (some ⟨g2, 0, none⟩) (pre.length + 1 + 1) c2)) := by
      intro w' hE
      have hb' : Boxed w' (w.heap.size + 1) 55 _ := (hE.block _ hb.lt).trans hb
      have hbs' : Boxed w' Bs 22 _ := (hE.block _ hbs.lt).trans hbs
      have ho' : w'.ownsRow w.heap.size 9 1 (.slice (some ⟨gq, 0, none⟩) (pre.length + 1) cq) (pre.length + 1) _ := ownsRow_up (w := W.drew) ho hE
      have hs1 : w.heap.size ≤ W.heap.size := hB.size
      have hs2 : W.heap.size ≤ w'.heap.size := hE.size
      obtain ⟨v2, w2, hrun, hown2, hgrow2, -⟩ := run_append_own (P := Tryd.prog) (w'.alloc (.cells #[str (M.nine y.2.1)] 9)) w.heap.size 55 55 9 i0 (.string ⟨#[]⟩) 1 16 Tryd.underlying55 hi hz0 hz1 hz2 rfl (by decide) (.slice (some ⟨gq, 0, none⟩) (pre.length + 1) cq) (pre.length + 1) _ (World.ownsRow.alloc ho' _) ⟨w'.heap.size, 0, none⟩ 1 1 [str (M.nine y.2.1)] rfl (cell_one_new _ _ _) (by simp [Value.oneCell']) (by have := HPL.out; unfold maxLen; omega) (by have := HPL.out; omega) (by simp; omega)
      obtain ⟨g2, c2, rfl⟩ := ownsRow_succ hown2
      obtain ⟨hv1, hv2, hr2, hk2, hb2⟩ := Boxed.appended hb' (by decide) ho' (by omega) (Nat.le_succ _) hown2 hgrow2
      have hbs2 : Boxed (w2.setCell ⟨w.heap.size + 1, 0, none⟩ (.slice (some ⟨g2, 0, none⟩) (pre.length + 1 + 1) c2)) Bs 22 (.slice (some ad) h c) :=
        ((hbs'.alloc (.cells #[str (M.nine y.2.1)] 9)).kept hgrow2 ((hbs'.alloc (.cells #[str (M.nine y.2.1)] 9)).not_row (by decide) (World.ownsRow.alloc ho' (.cells #[str (M.nine y.2.1)] 9)))).other hne _
      have hE2 : Below w.heap.size W w' := ⟨hE.os, hE.tape, hE.output, hs2, fun k hk => hE.block k (Nat.lt_of_lt_of_le hk hs1)⟩
      have hKO : KeepsOthers W w' := ⟨hs2, fun k o hk _ => (hE.block k (Array.getElem?_eq_some_iff.1 hk).1).trans hk⟩
      refine ⟨g2, c2, w2, hrun, hv1, hb', (hKO.trans hk2).from _, ⟨hE2.trans hb2, (show _ = _ from hbs2).trans (show _ = _ from hbs).symm⟩, ⟨⟨_, hv2, ?_, trivial⟩, hbs2⟩, hB.trans (hE2.trans hb2)⟩
      rw [HE1.out, HE2.out]
      exact hr2
    gi_wp2
    refine wpIn_region_any mixed ?_
    change wpAnyIn _ _ _ _ _ _ _ _ _ (World.drew _)
    refine wpAnyIn_ready (rs := [0, 1]) (by kernel_rfl) (by simp) ?_
    refine AllReadyIn.cons rfl (fun K hK => ?_) ?_
    · go_simp
      refine hK _ _ ?_
      clear hK K
      refine wpAnyIn_ready (rs := [1]) (by kernel_rfl) (by simp) ?_
      refine AllReadyIn.cons rfl (fun K hK => ?_) ?_
      · go_simp
        refine hK _ _ ?_
        clear hK K
        refine wpAnyIn_ready (rs := [2]) (by kernel_rfl) (by simp) ?_
        refine AllReadyIn.cons rfl (fun K hK => ?_) ?_
        · go_simp
          refine ⟨trivial, ?_⟩
          refine hnine _ ?_
          intro w' hE
          obtain ⟨g2, c2, w2, hrun, hv1, hb', hend⟩ := happ w' hE
          have hc3 := hb'.cell
          have hc4 := (hb'.alloc (.cells #[str (M.nine y.2.1)] 9)).cell
          have hc2 := hv1.cell
          have hf2 := hv1.frozen
          refine hK _ _ ?_
          clear hK K
          refine wpAnyIn_ready (rs := [3]) (by kernel_rfl) (by simp) ?_
          refine AllReadyIn.cons rfl (fun K hK => ?_) ?_
          · go_simp
            refine hK _ _ ?_
            clear hK K
            refine wpAnyIn_ready (rs := [4]) (by kernel_rfl) (by simp) ?_
            refine AllReadyIn.cons rfl (fun K hK => ?_) ?_
            · refine wpIn_append_run (.tmp 36) (.tmp 39) 55 rfl _ rfl _ rfl hrun ?_
              simp only [Act.put, List.setIfInBounds_toArray, List.set_cons_zero, List.set_cons_succ]
              refine hK _ _ ?_
              clear hK K
              refine wpAnyIn_ready (rs := [5]) (by kernel_rfl) (by simp) ?_
              refine AllReadyIn.cons rfl (fun K hK => ?_) ?_
              · go_simp
                refine hK _ _ ?_
                clear hK K
                refine wpAnyIn_done (by kernel_rfl) ?_ _
                gi_wp2
                exact hend
              exact AllReadyIn.nil
            exact AllReadyIn.nil
          exact AllReadyIn.nil
        exact AllReadyIn.nil
      exact AllReadyIn.nil
    refine AllReadyIn.cons rfl (fun K hK => ?_) ?_
    · go_simp
      refine hK _ _ ?_
      clear hK K
      refine wpAnyIn_ready (rs := [0, 2]) (by kernel_rfl) (by simp) ?_
      refine AllReadyIn.cons rfl (fun K hK => ?_) ?_
      · go_simp
        refine hK _ _ ?_
        clear hK K
        refine wpAnyIn_ready (rs := [2]) (by kernel_rfl) (by simp) ?_
        refine AllReadyIn.cons rfl (fun K hK => ?_) ?_
        · go_simp
          refine ⟨trivial, ?_⟩
          refine hnine _ ?_
          intro w' hE
          obtain ⟨g2, c2, w2, hrun, hv1, hb', hend⟩ := happ w' hE
          have hc3 := hb'.cell
          have hc4 := (hb'.alloc (.cells #[str (M.nine y.2.1)] 9)).cell
          have hc2 := hv1.cell
          have hf2 := hv1.frozen
          refine hK _ _ ?_
          clear hK K
          refine wpAnyIn_ready (rs := [3]) (by kernel_rfl) (by simp) ?_
          refine AllReadyIn.cons rfl (fun K hK => ?_) ?_
          · go_simp
            refine hK _ _ ?_
            clear hK K
            refine wpAnyIn_ready (rs := [4]) (by kernel_rfl) (by simp) ?_
            refine AllReadyIn.cons rfl (fun K hK => ?_) ?_
            · refine wpIn_append_run (.tmp 36) (.tmp 39) 55 rfl _ rfl _ rfl hrun ?_
              simp only [Act.put, List.setIfInBounds_toArray, List.set_cons_zero, List.set_cons_succ]
              refine hK _ _ ?_
              clear hK K
              refine wpAnyIn_ready (rs := [5]) (by kernel_rfl) (by simp) ?_
              refine AllReadyIn.cons rfl (fun K hK => ?_) ?_
              · go_simp
                refine hK _ _ ?_
                clear hK K
                refine wpAnyIn_done (by kernel_rfl) ?_ _
                gi_wp2
                exact hend
              exact AllReadyIn.nil
            exact AllReadyIn.nil
          exact AllReadyIn.nil
        exact AllReadyIn.nil
      refine AllReadyIn.cons rfl (fun K hK => ?_) ?_
      · go_simp
        refine ⟨trivial, ?_⟩
        refine hnine _ ?_
        intro w' hE
        obtain ⟨g2, c2, w2, hrun, hv1, hb', hend⟩ := happ w' hE
        have hc3 := hb'.cell
        have hc4 := (hb'.alloc (.cells #[str (M.nine y.2.1)] 9)).cell
        have hc2 := hv1.cell
        have hf2 := hv1.frozen
        refine hK _ _ ?_
        clear hK K
        refine wpAnyIn_ready (rs := [0, 3]) (by kernel_rfl) (by simp) ?_
        refine AllReadyIn.cons rfl (fun K hK => ?_) ?_
        · go_simp
          refine hK _ _ ?_
          clear hK K
          refine wpAnyIn_ready (rs := [3]) (by kernel_rfl) (by simp) ?_
          refine AllReadyIn.cons rfl (fun K hK => ?_) ?_
          · go_simp
            refine hK _ _ ?_
            clear hK K
            refine wpAnyIn_ready (rs := [4]) (by kernel_rfl) (by simp) ?_
            refine AllReadyIn.cons rfl (fun K hK => ?_) ?_
            · refine wpIn_append_run (.tmp 36) (.tmp 39) 55 rfl _ rfl _ rfl hrun ?_
              simp only [Act.put, List.setIfInBounds_toArray, List.set_cons_zero, List.set_cons_succ]
              refine hK _ _ ?_
              clear hK K
              refine wpAnyIn_ready (rs := [5]) (by kernel_rfl) (by simp) ?_
              refine AllReadyIn.cons rfl (fun K hK => ?_) ?_
              · go_simp
                refine hK _ _ ?_
                clear hK K
                refine wpAnyIn_done (by kernel_rfl) ?_ _
                gi_wp2
                exact hend
              exact AllReadyIn.nil
            exact AllReadyIn.nil
          exact AllReadyIn.nil
        refine AllReadyIn.cons rfl (fun K hK => ?_) ?_
        · go_simp
          refine hK _ _ ?_
          clear hK K
          refine wpAnyIn_ready (rs := [0]) (by kernel_rfl) (by simp) ?_
          refine AllReadyIn.cons rfl (fun K hK => ?_) ?_
          · go_simp
            refine hK _ _ ?_
            clear hK K
            refine wpAnyIn_ready (rs := [4]) (by kernel_rfl) (by simp) ?_
            refine AllReadyIn.cons rfl (fun K hK => ?_) ?_
            · refine wpIn_append_run (.tmp 36) (.tmp 39) 55 rfl _ rfl _ rfl hrun ?_
              simp only [Act.put, List.setIfInBounds_toArray, List.set_cons_zero, List.set_cons_succ]
              refine hK _ _ ?_
              clear hK K
              refine wpAnyIn_ready (rs := [5]) (by kernel_rfl) (by simp) ?_
              refine AllReadyIn.cons rfl (fun K hK => ?_) ?_
              · go_simp
                refine hK _ _ ?_
                clear hK K
                refine wpAnyIn_done (by kernel_rfl) ?_ _
                gi_wp2
                exact hend
              exact AllReadyIn.nil
            exact AllReadyIn.nil
          exact AllReadyIn.nil
        exact AllReadyIn.nil
      exact AllReadyIn.nil
    exact AllReadyIn.nil
  case done =>
    rintro D ys W hD hys ⟨⟨⟨v, hb, ho, -⟩, hbs⟩, hB⟩ hK
    have hxs : (Lib.decDigits x :: ys.map (fun y => M.nine y.2.1)) = M.pieces l := pieces_of HN.out HX2.out hys
    have hfl : (Lib.decDigits x :: ys.map (fun y => M.nine y.2.1)).flatten = Lib.decDigits (M.nv l) := by
      obtain ⟨i1, i2⟩ := M.isNat_iff.1 HI.out
      rw [hxs, M.dec_pieces i1 i2 HNE.out, M.nv, if_pos HI.out]
    have hlen : (Lib.decDigits (M.nv l)).length ≤ 140737488355328 := by
      rw [M.dec_length]
      have h1 := M.dec_room l
      have h2 := HLE.out
      omega
    obtain ⟨gq, cq, rfl⟩ := ownsRow_succ ho
    have hyl : ys.length ≤ 1000000 := by
      have := congrArg List.length hys
      simp at this
      have h2 := HLE.out
      omega
    have hc1 := hb.cell
    obtain ⟨hg1, hg2⟩ := own_room ho
    have htog := together_n (w := W) gq 0 cq (Lib.decDigits x :: ys.map (fun y => M.nine y.2.1)) (fun j z hz => by
      rw [Nat.zero_add]
      have := ho.cells (g := gq) rfl j _ (by rw [List.getElem?_map, hz]; rfl)
      rwa [Addr.add_lit, Nat.zero_add] at this) hg1 (by simp; omega) (by simpa using hg2) (by rw [hfl]; exact hlen)
    rw [hfl, show (Lib.decDigits x :: ys.map (fun y => M.nine y.2.1)).length = ys.length + 1 by simp] at htog
    clear hxs hfl hlen hyl
    go_wp2_with (go_at_call 31; refine htog.mono ?_; rintro e w' ⟨rfl, hE⟩)
    have hK' : w'.heap[D]? = some (.deferred (some [])) := (hE.block D (Array.getElem?_eq_some_iff.1 hK).1).trans hK
    refine ⟨by simp, .inl ⟨_, _, rfl, run_takeDeferred hK', ?_⟩⟩
    have hBe : Below w.heap.size w w' := hB.trans (Below.mono hE hB.size)
    exact ⟨_, results_tmp rfl _ _ _, rfl, hBe.trans (belowK_b (w := w) (Nat.le_refl _) w' D _ _ (by have := ext.size; omega) hK' rfl rfl)⟩
  case stop =>
    rintro D c pre W _ _ h _
    exact h.elim
theorem digitsNat_n {w : World} {v : Value} {l : List Nat} (hv : Num w w.heap.size v l) (hle : l.length ≤ 1000000) (ht : Tab w) :
    Calls Tryd.prog 13 #[v] w (GivesT w (Lib.decDigits (M.nv l))) := by
  obtain ⟨A, n, c, rfl⟩ := hv.slice
  have hn := hv.row.2
  by_cases hne : l = []
  · subst hne
    obtain rfl : n = 0 := hn
    have e : M.nv [] = 0 := rfl
    rw [e, M.dec_small (by decide)]
    clear hv
    refine (callsIn_wide (n := 9)).1 (callsIn_of_wp_marks Tryd.func13 rfl trivial ?_ rfl)
    refine wpIn_wide.2 ?_
    simp only [Tryd.ntmps13, List.size_toArray, List.length_cons, List.length_nil, Nat.reduceAdd, Nat.reduceSub, Array.replicate_succ, Array.replicate_zero, List.push_toArray, List.append_toArray, List.nil_append, List.cons_append]
    go_wp2
    exact ⟨_, results_tmp rfl _ _ _, rfl, Ext.refl _⟩
  · cases hI : M.isNat l with
    | true => exact digitsNat_main hv hI hne hle ht
    | false =>
      have e : M.nv l = 0 := by unfold M.nv; rw [hI]; rfl
      rw [e, M.dec_small (by decide)]
      obtain ⟨h, rfl⟩ : ∃ h, n = h + 1 := ⟨n - 1, by have : l.length ≠ 0 := fun h => hne (List.eq_nil_of_length_eq_zero h); omega⟩
      have HV := hid hv
      have HI := hid hI
      have hh : h + 1 ≤ 1000000 := by omega
      clear hv hI hn hle hne
      refine (callsIn_wide (n := 9)).1 (callsIn_of_wp_marks Tryd.func13 rfl trivial ?_ rfl)
      refine wpIn_wide.2 ?_
      simp only [Tryd.ntmps13, List.size_toArray, List.length_cons, List.length_nil, Nat.reduceAdd, Nat.reduceSub, Array.replicate_succ, Array.replicate_zero, List.push_toArray, List.append_toArray, List.nil_append, List.cons_append]
      go_wp2_with (go_at_call 33; refine (isNat_l HV.out HI.out).mono ?_; rintro e wq ⟨rfl, rfl⟩)
      exact ⟨_, results_tmp rfl _ _ _, rfl, Ext.refl _⟩
end Go.Proofs.YthlafkbldlmmaaaDoor
