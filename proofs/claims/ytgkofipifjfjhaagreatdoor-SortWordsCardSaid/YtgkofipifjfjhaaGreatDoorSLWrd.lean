/-
  Layer 11's laws: SortWords.
-/
import Derived.Test.YtgkofipifjfjhaaGreatDoorJSF
import Derived.Test.YtgkofipifjfjhaaGreatDoorSArgsM
namespace Go.Proofs.YtgkofipifjfjhaaGreatDoor.Q
set_option linter.unusedSimpArgs false
set_option linter.unusedVariables false
open Go.RowKit

theorem Reps.put {w : World} : ∀ {a b : List M.T} {x y : List Value}, Reps w a x → Reps w b y → Reps w (a ++ b) (x ++ y)
  | [], b, x, y, h, h' => by obtain rfl : x = [] := h; simpa using h'
  | t :: r, b, x, y, h, h' => by
    obtain ⟨v, cs, rfl, h1, h2⟩ := h
    exact ⟨v, cs ++ y, rfl, h1, Reps.put h2 h'⟩
theorem Reps.cellOne {w : World} : ∀ {ks : List M.T} {cs : List Value}, Reps w ks cs → ∀ u ∈ cs, u.oneCell' = true
  | [], cs, h, u, hu => by obtain rfl : cs = [] := h; cases hu
  | t :: r, cs, h, u, hu => by
    obtain ⟨v, cs', rfl, h1, h2⟩ := h
    simp only [List.mem_cons] at hu
    rcases hu with rfl | rfl | rfl | rfl | hu
    · rfl
    · rfl
    · rfl
    · exact h1.2
    · exact Reps.cellOne h2 u hu
theorem Reps.size {w : World} : ∀ {ks : List M.T} {cs : List Value}, Reps w ks cs → cs.length = ks.length * 4
  | [], cs, h => by obtain rfl : cs = [] := h; rfl
  | t :: r, cs, h => by
    obtain ⟨v, cs', rfl, h1, h2⟩ := h
    simp [Reps.size h2]; omega
theorem intsNil (w : World) : Ints w [] (.slice none 0 0) := ⟨none, 0, 0, rfl, rfl, Nat.le_refl _, Nat.zero_le _, fun h => absurd rfl h⟩
/-- A row of one Sig. -/
theorem sgs_one {w : World} {g : Nat} {s : M.Sg} {A : Option Addr} {n c : Nat} {T : TypeId} (hb : Box w g #[str s.name, .slice A n c, .int .i64 s.ret] T) (hi : Ints w s.args (.slice A n c)) : Sgs w [s] (.slice (some ⟨g, 0, none⟩) 1 1) := by
  refine ⟨_, 1, 1, rfl, rfl, Nat.le_refl _, by unfold maxLen; omega, fun _ => ⟨_, rfl, hb.lt, fun k t hk => ?_⟩⟩
  cases k with
  | zero =>
    simp at hk; subst hk
    refine ⟨A, n, c, ⟨?_, ?_, ?_⟩, hi⟩
    · rw [Addr.add_lit]; exact hb.cell rfl
    · rw [Addr.add_lit, Addr.add_lit]; exact hb.cell rfl
    · rw [Addr.add_lit, Addr.add_lit]; exact hb.cell rfl
  | succ k => simp at hk
/-- Trees behind trees of the call's own. -/
theorem appKM_run {B : Nat} {V w : World} {v : Value} {ks ms : List M.T} {cs : Array Value} {m gL : Nat} {tL : TypeId} (h : OwnKV B V w v ks) (hL : Box w gL cs tL) (hr : Reps V ms cs.toList) (hm : m = ms.length)
    (hlen : ks.length + ms.length ≤ 1000000) (hbase : B ≤ w.heap.size) (ty : TypeId) :
    ∃ v' w', (Builtin.append_ #[24, 24] ty #[v, .slice (some ⟨gL, 0, none⟩) m m]).run Tryz.prog w = .ok v' w' ∧ OwnKV B V w' v' (ks ++ ms) ∧ Below B w w' ∧ Kept v.ownBlock.toList w w' := by
  obtain ⟨i0, hi, hz0, hz1, hz2⟩ := info_parts info_Tree
  obtain ⟨cs0, ho, hr0⟩ := h
  subst hm
  obtain ⟨v', w', hrun, ho', hg, _, hv'⟩ := run_append_own_at (P := Tryz.prog) w B 24 ty 26 i0 _ 4 56 Tryz.underlying24 hi hz0 hz1 hz2 rfl (by decide) v ks.length cs0 ho ⟨gL, 0, none⟩ ms.length ms.length
    cs.toList hr.size (by
      intro j u hj
      rw [Addr.add_lit, Nat.zero_add]
      exact hL.cell (by simpa using hj)) hr.cellOne (by unfold maxLen; omega) (by omega) hbase
  exact ⟨v', w', hrun, ⟨_, by rw [List.length_append]; exact ho', hr0.put hr⟩, (Below.refl _ _).grown hg hbase fun k hk => (World.ownsRow.lt ho k hk).1, sgrown hg⟩
theorem wpList_appKM {B : Nat} {V w : World} {ops : Array Oper} {rest : List Oper} {o : Oper} {a : Act} {Q : Exit → Act → World → Prop} (hgd : o.guard = none) (s x : Operand)
    (ho : o.op = .call { callee := .builtin .append, args := #[s, x], argTypes := #[24, 24] }) {v : Value} {ks ms : List M.T} {cs : Array Value} {m gL : Nat} {tL : TypeId}
    (hs : a.eval s = v) (hx : a.eval x = .slice (some ⟨gL, 0, none⟩) m m) (h : OwnKV B V w v ks) (hL : Box w gL cs tL) (hr : Reps V ms cs.toList) (hm : m = ms.length) (hlen : ks.length + ms.length ≤ 1000000) (hbase : B ≤ w.heap.size)
    (hq : ∀ v' w', OwnKV B V w' v' (ks ++ ms) → Below B w w' → Kept v.ownBlock.toList w w' → wpList Tryz.prog ops Q rest (a.put o.dst v') w') : wpList Tryz.prog ops Q (o :: rest) a w := by
  obtain ⟨v', w', hr, h2, h3, h4⟩ := appKM_run h hL hr hm hlen hbase o.type
  refine wpList_plain hgd fun K hK => ?_
  unfold Oper.wp execOp
  simp only [ho, resolve, invoke, builtin, Sem.run_bind, Sem.run_pure, Result.andThen_ok, List.map_toArray, List.map_cons, List.map_nil, hs, hx, hr]
  exact hK _ _ (hq v' w' h2 h3 h4)
/-- A row literal of one tree, of the call's own. -/
theorem OwnKV.lit {B : Nat} {V w : World} {t : M.T} {kd : Value} (hk : Kids V t.kids kd) (h1 : kd.oneCell' = true) (hb : B ≤ w.heap.size) : OwnKV B V (w.alloc (.cells #[.bool t.list, .int .i64 t.tok.1, str t.tok.2, kd] 26)) (.slice (some ⟨w.heap.size, 0, none⟩) 1 1) [t] :=
  ⟨[.bool t.list, .int .i64 t.tok.1, str t.tok.2, kd], World.ownsRow_lit w #[.bool t.list, .int .i64 t.tok.1, str t.tok.2, kd] 1 hb (by unfold maxLen; omega) rfl, Reps.cons hk h1 (Reps.nil _)⟩
/-- Where the call of Term owes its term. -/
theorem term_givesS {t : M.T} {l : List M.Sg} {r : M.Tm × Int} (hr : M.rTerm M.barred l t = r) (htx : M.txtN t = true) {v : Value} {SA : Option Addr} {sn sc : Nat} {w : World} (h : IsT w t v) (hs : Sgs w l (.slice SA sn sc)) (hnm : ∀ s ∈ l, s.name.length ≤ 1000000000000) (ht : TabS w) : Calls Tryz.prog 17 #[v, .slice SA sn sc] w (GivesTmN w r) := hr ▸ Term_t t h htx hs hnm ht
theorem box05 {w : World} {k : Nat} {x0 x1 x2 x3 x4 x5 : Value} {T : TypeId} (h : Box w k #[x0, x1, x2, x3, x4, x5] T) : w.cell? ⟨k, 0, none⟩ = some x0 ∧ w.cell? ⟨k, 5, none⟩ = some x5 := ⟨h.k 0, h.k 5⟩
def catx (x y : List UInt8) : Prop := x ++ [120] = y
theorem catx.cat {x y : List UInt8} (h : catx x y) : (⟨x.toArray⟩ : ByteArray) ++ ⟨#[120]⟩ = ⟨y.toArray⟩ := by
  have e := app_str x [120]
  rw [show x ++ [120] = y from h] at e
  exact e
abbrev words18 : Array Value := #[str [110, 111, 116], str [97, 110, 100], str [111, 114], str [120, 111, 114], str [61, 62], str [61], str [100, 105, 115, 116, 105, 110, 99, 116], str [105, 116, 101], str [43], str [45], str [42], str [100, 105, 118], str [109, 111, 100], str [97, 98, 115], str [60, 61], str [60], str [62, 61], str [62]]
theorem words18_at {k : Nat} (hk : k < 18) : words18[k]? = some (str (M.opWords.getD (k + 5) [])) := by
  have e : words18 = ((M.opWords.drop 5).map str).toArray := by kernel_rfl
  have h := M.word_at ⟨k, hk⟩
  rw [e, List.getElem?_toArray, List.getElem?_map, show (M.opWords.drop 5)[k]? = _ from h]; rfl
set_option maxHeartbeats 40000000 in
set_option maxRecDepth 100000 in
theorem words_t {nI : Int} {k : Nat} {w : World} (h0 : 0 ≤ nI) (h1 : nI ≤ 255) (hr : nI % 18 = (k : Int)) (hr18 : (k : Int) < 18) (ht : TabT w) : Calls Tryz.prog 5 #[.int .u8 nI] w (GivesB w true) := by
  have HKN := hid (known_t ht)
  have HTB := hid (fun w' (e : Ext w w') => ht.up e)
  clear ht
  go_enter Tryz.func5, Tryz.ntmps5
  go_wp2_with fail
  refine HKN.out.mono ?_
  rintro e w1 ⟨rfl, hx⟩
  have E := hid hx
  clear hx HKN
  go_upto_region 4 with (fail)
  refine swp_at (fun W => Box W w1.heap.size words18 58 ∧ Ext w W) ⟨Box.new w1 words18 58, E.out.alloc' _⟩ ?_
  clear E
  intro W ⟨hb0, he⟩
  obtain ⟨g3, hg3⟩ : ∃ g, w1.heap.size = g := ⟨_, rfl⟩
  rw [hg3] at hb0 ⊢
  have HB := hid hb0
  have E := hid he
  clear hb0 he hg3
  go_upto_region 5 with (fail)
  have hk18 : k < 18 := by omega
  obtain ⟨x, hx⟩ : ∃ x, M.opWords.getD (k + 5) [] = x := ⟨_, rfl⟩
  obtain ⟨KS, hKS⟩ : ∃ l, M.wordKids k = l := ⟨_, rfl⟩
  have HWT := M.word_terms ⟨k, hk18⟩
  have HWN := M.word_name ⟨k, hk18⟩
  have HWX := M.word_x ⟨k, hk18⟩
  have HWR := M.word_resv ⟨k, hk18⟩
  have HWL := M.word_txt ⟨k, hk18⟩
  have HWC := words18_at hk18
  simp only at HWT HWN HWX HWR HWL
  rw [hx] at HWT HWN HWX HWR HWL HWC
  rw [hKS] at HWT HWX
  replace HWT := hid HWT
  replace HWN := hid HWN
  replace HWX := hid HWX
  replace HWR := hid HWR
  replace HWL := hid HWL
  replace HWC := hid HWC
  have HK := hid hk18
  have HKS := hid hKS
  clear hr hx hKS
  have hwp : ∀ s ∈ [M.wordP], s.name.length ≤ 1000000000000 := fun s hs => by simp at hs; subst hs; decide
  obtain ⟨⟨T1, e1⟩, hT1⟩ : ∃ r, M.rTerm M.barred [M.wordP] (M.LI (M.SY x :: KS)) = r := ⟨_, rfl⟩
  obtain ⟨⟨T3, e3⟩, hT3⟩ : ∃ r, M.rTerm M.barred [M.wordP] (M.LI (M.SY (x ++ [120]) :: KS)) = r := ⟨_, rfl⟩
  rw [hT1] at HWT
  rw [hT3] at HWX
  obtain rfl : e1 = 0 := HWT.out.1
  obtain rfl : e3 = 16 := HWX.out
  have HT1 := hid hT1
  have HT3 := hid hT3
  obtain ⟨o, ho⟩ : ∃ o : Nat, 5 + k = o := ⟨_, rfl⟩
  have HOP := hid (show T1.op = (o : Int) by rw [← ho]; exact HWT.out.2.1)
  have HO5 := hid ho
  have HKL := hid (show T1.kids.length = KS.length from HWT.out.2.2)
  have hks : M.txtNs KS = true := by rw [← HKS.out]; exact M.wordKids_txt k
  have HTX1 := hid (show M.txtN (M.LI (M.SY x :: KS)) = true by have := HWL.out; simp [M.txtN, M.txtNs, hks]; omega)
  have HTX2 := hid (show M.txtN (M.SY x) = true by have := HWL.out; simp [M.txtN, M.txtNs]; omega)
  have HTX3 := hid (show M.txtN (M.LI (M.SY (x ++ [120]) :: KS)) = true by have := HWL.out; simp [M.txtN, M.txtNs, hks]; omega)
  clear hT1 hT3 hks HWT HWX ho
  have hcls : k = 0 ∨ (1 ≤ k ∧ k ≤ 6) ∨ k = 7 ∨ k = 13 ∨ (8 ≤ k ∧ k ≠ 13) := by omega
  rcases hcls with hc | hc | hc | hc | hc
  case' inl =>
    have b0 : ((k : Int) == 0) = true := by simp; omega
    have HKE := hid (show KS = [M.SY [112]] by rw [← HKS.out, M.wordKids, if_pos hc])
    have HM := hid (show 1 = KS.length by rw [HKE.out]; rfl)
    clear hc
    go_wp2_with fail
    refine (lsym_t [112] _).mono ?_
    rintro e w2 ⟨rfl, hb⟩
    replace E := hid (E.out.trans hb)
    replace HB := hid (HB.out.up hb)
    clear hb
    go_upto_region 15 with (fail)
    refine swp_at (fun W => ∃ cs, Box W w2.heap.size cs 26 ∧ Reps W KS cs.toList ∧ Box W g3 words18 58 ∧ Ext w W) ⟨#[.bool false, .int .i64 4, str [112], .slice none 0 0], Box.new _ _ _, by rw [HKE.out]; exact Reps.leaf (Reps.nil _), HB.out.alloc _, E.out.alloc' _⟩ ?_
    clear E HB HKE b0
    intro W ⟨cs, hb0, hr, hb, he⟩
    obtain ⟨gl, hgl⟩ : ∃ g, w2.heap.size = g := ⟨_, rfl⟩
    rw [hgl] at hb0 ⊢
    have HBL := hid hb0
    have HRL := hid hr
    have HB := hid hb
    have E := hid he
    clear hb0 hr hb he hgl
  case' inr.inl =>
    have b0 : ((k : Int) == 0) = false := by simp; omega
    have b1 : (k : Int) ≤ 6 := by omega
    have HKE := hid (show KS = [M.SY [112], M.SY [112]] by rw [← HKS.out, M.wordKids, if_neg (by omega), if_pos hc.2])
    have HM := hid (show 2 = KS.length by rw [HKE.out]; rfl)
    clear hc
    go_wp2_with fail
    refine (lsym_t [112] _).mono ?_
    rintro e w2 ⟨rfl, hb⟩
    replace E := hid (E.out.trans hb)
    replace HB := hid (HB.out.up hb)
    clear hb
    go_wp2_with fail
    refine (lsym_t [112] _).mono ?_
    rintro e w2 ⟨rfl, hb⟩
    replace E := hid (E.out.trans hb)
    replace HB := hid (HB.out.up hb)
    clear hb
    go_upto_region 15 with (fail)
    refine swp_at (fun W => ∃ cs, Box W w2.heap.size cs 26 ∧ Reps W KS cs.toList ∧ Box W g3 words18 58 ∧ Ext w W) ⟨#[.bool false, .int .i64 4, str [112], .slice none 0 0, .bool false, .int .i64 4, str [112], .slice none 0 0], Box.new _ _ _, by rw [HKE.out]; exact Reps.leaf (Reps.leaf (Reps.nil _)), HB.out.alloc _, E.out.alloc' _⟩ ?_
    clear E HB HKE b0 b1
    intro W ⟨cs, hb0, hr, hb, he⟩
    obtain ⟨gl, hgl⟩ : ∃ g, w2.heap.size = g := ⟨_, rfl⟩
    rw [hgl] at hb0 ⊢
    have HBL := hid hb0
    have HRL := hid hr
    have HB := hid hb
    have E := hid he
    clear hb0 hr hb he hgl
  case' inr.inr.inl =>
    have b0 : ((k : Int) == 0) = false := by simp; omega
    have b1 : decide ((k : Int) ≤ 6) = false := by simp; omega
    have b2 : ((k : Int) == 7) = true := by simp; omega
    have HKE := hid (show KS = [M.SY [112], M.NU [49], M.NU [50]] by rw [← HKS.out, M.wordKids, if_neg (by omega), if_neg (by omega), if_pos hc])
    have HM := hid (show 3 = KS.length by rw [HKE.out]; rfl)
    clear hc
    go_wp2_with fail
    refine (lsym_t [112] _).mono ?_
    rintro e w2 ⟨rfl, hb⟩
    replace E := hid (E.out.trans hb)
    replace HB := hid (HB.out.up hb)
    clear hb
    go_wp2_with fail
    refine (lnum_t [49] _).mono ?_
    rintro e w2 ⟨rfl, hb⟩
    replace E := hid (E.out.trans hb)
    replace HB := hid (HB.out.up hb)
    clear hb
    go_wp2_with fail
    refine (lnum_t [50] _).mono ?_
    rintro e w2 ⟨rfl, hb⟩
    replace E := hid (E.out.trans hb)
    replace HB := hid (HB.out.up hb)
    clear hb
    go_upto_region 15 with (fail)
    refine swp_at (fun W => ∃ cs, Box W w2.heap.size cs 26 ∧ Reps W KS cs.toList ∧ Box W g3 words18 58 ∧ Ext w W) ⟨#[.bool false, .int .i64 4, str [112], .slice none 0 0, .bool false, .int .i64 3, str [49], .slice none 0 0, .bool false, .int .i64 3, str [50], .slice none 0 0], Box.new _ _ _, by rw [HKE.out]; exact Reps.leaf (Reps.leaf (Reps.leaf (Reps.nil _))), HB.out.alloc _, E.out.alloc' _⟩ ?_
    clear E HB HKE b0 b1 b2
    intro W ⟨cs, hb0, hr, hb, he⟩
    obtain ⟨gl, hgl⟩ : ∃ g, w2.heap.size = g := ⟨_, rfl⟩
    rw [hgl] at hb0 ⊢
    have HBL := hid hb0
    have HRL := hid hr
    have HB := hid hb
    have E := hid he
    clear hb0 hr hb he hgl
  case' inr.inr.inr.inl =>
    have b0 : ((k : Int) == 0) = false := by simp; omega
    have b1 : decide ((k : Int) ≤ 6) = false := by simp; omega
    have b2 : ((k : Int) == 7) = false := by simp; omega
    have b3 : ((k : Int) == 13) = true := by simp; omega
    have HKE := hid (show KS = [M.NU [49]] by rw [← HKS.out, M.wordKids, if_neg (by omega), if_neg (by omega), if_neg (by omega), if_pos hc])
    have HM := hid (show 1 = KS.length by rw [HKE.out]; rfl)
    clear hc
    go_wp2_with fail
    refine (lnum_t [49] _).mono ?_
    rintro e w2 ⟨rfl, hb⟩
    replace E := hid (E.out.trans hb)
    replace HB := hid (HB.out.up hb)
    clear hb
    go_upto_region 15 with (fail)
    refine swp_at (fun W => ∃ cs, Box W w2.heap.size cs 26 ∧ Reps W KS cs.toList ∧ Box W g3 words18 58 ∧ Ext w W) ⟨#[.bool false, .int .i64 3, str [49], .slice none 0 0], Box.new _ _ _, by rw [HKE.out]; exact Reps.leaf (Reps.nil _), HB.out.alloc _, E.out.alloc' _⟩ ?_
    clear E HB HKE b0 b1 b2 b3
    intro W ⟨cs, hb0, hr, hb, he⟩
    obtain ⟨gl, hgl⟩ : ∃ g, w2.heap.size = g := ⟨_, rfl⟩
    rw [hgl] at hb0 ⊢
    have HBL := hid hb0
    have HRL := hid hr
    have HB := hid hb
    have E := hid he
    clear hb0 hr hb he hgl
  case' inr.inr.inr.inr =>
    have b0 : ((k : Int) == 0) = false := by simp; omega
    have b1 : decide ((k : Int) ≤ 6) = false := by simp; omega
    have b2 : ((k : Int) == 7) = false := by simp; omega
    have b3 : ((k : Int) == 13) = false := by simp; omega
    have HKE := hid (show KS = [M.NU [55], M.NU [50]] by rw [← HKS.out, M.wordKids, if_neg (by omega), if_neg (by omega), if_neg (by omega), if_neg (by omega)])
    have HM := hid (show 2 = KS.length by rw [HKE.out]; rfl)
    clear hc
    go_wp2_with fail
    refine (lnum_t [55] _).mono ?_
    rintro e w2 ⟨rfl, hb⟩
    replace E := hid (E.out.trans hb)
    replace HB := hid (HB.out.up hb)
    clear hb
    go_wp2_with fail
    refine (lnum_t [50] _).mono ?_
    rintro e w2 ⟨rfl, hb⟩
    replace E := hid (E.out.trans hb)
    replace HB := hid (HB.out.up hb)
    clear hb
    go_upto_region 15 with (fail)
    refine swp_at (fun W => ∃ cs, Box W w2.heap.size cs 26 ∧ Reps W KS cs.toList ∧ Box W g3 words18 58 ∧ Ext w W) ⟨#[.bool false, .int .i64 3, str [55], .slice none 0 0, .bool false, .int .i64 3, str [50], .slice none 0 0], Box.new _ _ _, by rw [HKE.out]; exact Reps.leaf (Reps.leaf (Reps.nil _)), HB.out.alloc _, E.out.alloc' _⟩ ?_
    clear E HB HKE b0 b1 b2 b3
    intro W ⟨cs, hb0, hr, hb, he⟩
    obtain ⟨gl, hgl⟩ : ∃ g, w2.heap.size = g := ⟨_, rfl⟩
    rw [hgl] at hb0 ⊢
    have HBL := hid hb0
    have HRL := hid hr
    have HB := hid hb
    have E := hid he
    clear hb0 hr hb he hgl
  all_goals
    have cx := HB.out.cell HWC.out
    go_wp2_with fail
    refine (lsym_t x _).mono ?_
    rintro e w3 ⟨rfl, hb⟩
    have E3 := hid hb
    clear hb cx
    go_wp2_with (at_builtin; refine wpList_appKM rfl (.tmp 49) (.tmp 50) rfl (B := W.heap.size) (V := W) (ks := [M.SY x]) (ms := KS) (cs := cs) (gL := gl) (tL := 26) rfl rfl ?own ?box HRL.out HM.out ?len ?base ?_)
    case own => exact OwnKV.lit (t := M.SY x) (Kids.nil _) rfl E3.out.size
    case box => exact (HBL.out.up E3.out).alloc _
    case len => have := HM.out; simp; omega
    case base => have := E3.out.size; simp; omega
    intro v4 w4 hO hB hK
    obtain ⟨A4, n4, c4, rfl, hn4⟩ : ∃ A n c, v4 = .slice A n c ∧ n = (M.SY x :: KS).length := by
      obtain ⟨A, c, h⟩ := hO.shape
      exact ⟨A, _, c, h, rfl⟩
    have E4 := hid (show Ext W w4 from Below.trans (B := W.heap.size) (E3.out.alloc' _) hB)
    have HK4 := hid (show Kids w4 (M.SY x :: KS) (.slice A4 n4 c4) from hO.kids E4.out.sub)
    clear hO hB hK E3 hn4
    go_wp2_with fail
    refine (llist_t A4 n4 c4 _).mono ?_
    rintro e w5 ⟨rfl, hb⟩
    replace HK4 := hid (HK4.out.up hb)
    replace E4 := hid (E4.out.trans hb)
    clear hb
    go_wp2_with fail
    refine (term_givesS (l := [M.wordP]) HT1.out HTX1.out ((isT_list HK4.out).up (Ext.alloc w5 _)) (sgs_one (s := M.wordP) (Box.new w5 _ _) (intsNil _)) hwp (HTB.out _ ((E.out.trans E4.out).alloc' _)).1).mono ?_
    rintro e w6 ⟨v6, rfl, hT, hb⟩
    obtain ⟨N6, nn6, nc6, A6, n6, c6, rfl, hn6, -, -, -, -, -⟩ := hT.shape
    replace E4 := hid ((E4.out.alloc' _).trans hb)
    rw [HOP.out]
    obtain rfl : n6 = KS.length := by rw [hn6, HKL.out]
    rw [← HM.out]
    clear hT hb hn6 HK4
    go_upto_region 16 with (fail)
    refine swp_at (fun W2 => Box W2 w6.heap.size #[.int .i64 (o : Int), .bool T1.g, .slice N6 nn6 nc6, str T1.name, .int .i64 T1.sort, .slice A6 _ c6] 33 ∧ Ext W W2) ⟨Box.new _ _ _, E4.out.alloc' _⟩ ?_
    clear E4
    intro W2 ⟨hb0, he⟩
    obtain ⟨g6, hg6⟩ : ∃ g, w6.heap.size = g := ⟨_, rfl⟩
    rw [hg6] at hb0 ⊢
    have HB6 := hid hb0
    have E2 := hid he
    have cx := he.cell (HB.out.cell HWC.out)
    clear hb0 he hg6
    go_wp2_with fail
    refine (lsym_t x _).mono ?_
    rintro e w3 ⟨rfl, hb⟩
    have E3 := hid (E2.out.trans hb)
    replace HB6 := hid (HB6.out.up hb)
    clear hb cx E2
    go_wp2_with fail
    refine (term_givesS (l := []) HWN.out HTX2.out (show IsT w3 (M.SY x) (tv false (4, x) none 0 0) from ⟨none, 0, rfl, Kids.nil _⟩) (Sgs.nil _) (fun s hs => by cases hs) (HTB.out _ (E.out.trans E3.out)).1).mono ?_
    rintro e w7 ⟨v7, rfl, hT, hb⟩
    obtain ⟨N7, nn7, nc7, A7, n7, c7, rfl, -, -, -, -, -, -⟩ := hT.shape
    replace E3 := hid (E3.out.trans hb)
    replace HB6 := hid (HB6.out.up hb)
    clear hT hb
    go_upto_region 17 with (fail)
    refine swp_at (fun W3 => Box W3 g6 _ 33 ∧ Ext W W3) ⟨HB6.out.alloc _, E3.out.alloc' _⟩ ?_
    clear E3 HB6
    intro W3 ⟨hb0, he⟩
    have HB6 := hid hb0
    have E2 := hid he
    have cx := he.cell (HB.out.cell HWC.out)
    obtain ⟨y, HY, hy⟩ : ∃ y, catx x y ∧ x ++ [120] = y := ⟨_, rfl, rfl⟩
    have hcat := HY.cat
    have hxl : ¬ (9223372036854775807 < x.length + 1) := by have := HWL.out; omega
    rw [hy] at HT3 HTX3 HWR
    clear hb0 he hy
    go_wp2_with fail
    refine (lsym_t y _).mono ?_
    rintro e w3 ⟨rfl, hb⟩
    have E3 := hid (E2.out.trans hb)
    replace HB6 := hid (HB6.out.up hb)
    have HG6 := hid (show g6 ≠ w3.heap.size by have := HB6.out.lt; omega)
    clear hb cx E2 hcat hxl
    go_wp2_with (at_builtin; refine wpList_appKM rfl (.tmp 72) (.tmp 73) rfl (B := W.heap.size) (V := W) (ks := [M.SY y]) (ms := KS) (cs := cs) (gL := gl) (tL := 26) rfl rfl ?own ?box HRL.out HM.out ?len ?base ?_)
    case own => exact OwnKV.lit (t := M.SY y) (Kids.nil _) rfl E3.out.size
    case box => exact (HBL.out.up E3.out).alloc _
    case len => have := HM.out; simp; omega
    case base => have := E3.out.size; simp; omega
    intro v4 w4 hO hB hK
    obtain ⟨A4, n4, c4, rfl, hn4⟩ : ∃ A n c, v4 = .slice A n c ∧ n = (M.SY y :: KS).length := by
      obtain ⟨A, c, h⟩ := hO.shape
      exact ⟨A, _, c, h, rfl⟩
    have E4 := hid (show Ext W w4 from Below.trans (B := W.heap.size) (E3.out.alloc' _) hB)
    have HK4 := hid (show Kids w4 (M.SY y :: KS) (.slice A4 n4 c4) from hO.kids E4.out.sub)
    replace HB6 := hid (((HB6.out.alloc _)).kept hK (by simp; exact fun e => HG6.out (Option.some.inj e).symm))
    clear hO hB hK E3 hn4
    go_wp2_with fail
    refine (llist_t A4 n4 c4 _).mono ?_
    rintro e w5 ⟨rfl, hb⟩
    replace HK4 := hid (HK4.out.up hb)
    replace E4 := hid (E4.out.trans hb)
    replace HB6 := hid (HB6.out.up hb)
    clear hb
    go_wp2_with fail
    refine (term_givesS (l := [M.wordP]) HT3.out HTX3.out ((isT_list HK4.out).up (Ext.alloc w5 _)) (sgs_one (s := M.wordP) (Box.new w5 _ _) (intsNil _)) hwp (HTB.out _ ((E.out.trans E4.out).alloc' _)).1).mono ?_
    rintro e w9 ⟨v9, rfl, hT, hb⟩
    obtain ⟨N9, nn9, nc9, A9, n9, c9, rfl, -, -, -, -, -, -⟩ := hT.shape
    replace E4 := hid ((E4.out.alloc' _).trans hb)
    replace HB6 := hid ((HB6.out.alloc _).up hb)
    clear hT hb HK4
    go_upto_region 18 with (fail)
    refine swp_at (fun W4 => Box W4 g6 _ 33 ∧ Ext W W4) ⟨HB6.out.alloc _, E4.out.alloc' _⟩ ?_
    clear E4 HB6
    intro W4 ⟨hb0, he⟩
    have cx := he.cell (HB.out.cell HWC.out)
    obtain ⟨t0, t4⟩ := box05 hb0
    have h5 : 5 + (k : Int) = (o : Int) := by have := HO5.out; omega
    have hcat := HY.cat
    have hxl : ¬ (9223372036854775807 < x.length + 1) := by have := HWL.out; omega
    have HRX := hid (show ∀ w', Ext W4 w' → Calls Tryz.prog 21 #[str x] w' (GivesB w' true) from fun w' e => HWR.out.1 ▸ reserved_t x (HTB.out _ (E.out.trans (he.trans e))).1.2)
    have HRY := hid (show ∀ w', Ext W4 w' → Calls Tryz.prog 21 #[str y] w' (GivesB w' false) from fun w' e => HWR.out.2 ▸ reserved_t y (HTB.out _ (E.out.trans (he.trans e))).1.2)
    clear hb0
    have E4 := hid he
    clear he
    go_wp2_with fail
    refine (HRX.out _ (Ext.refl _)).mono ?_
    rintro e w10 ⟨rfl, hb⟩
    have cx := hb.cell cx
    have E5 := hid hb
    clear hb
    go_wp2_with fail
    refine (HRY.out _ E5.out).mono ?_
    rintro e w11 ⟨rfl, hb⟩
    replace E5 := hid ((E.out.trans E4.out).trans (E5.out.trans hb))
    clear hb
    go_wp2
    go_ret
    exact ⟨rfl, E5.out⟩
end Go.Proofs.YtgkofipifjfjhaaGreatDoor.Q
