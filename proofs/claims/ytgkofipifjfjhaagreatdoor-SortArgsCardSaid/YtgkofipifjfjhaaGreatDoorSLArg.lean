/-
  Layer 11's laws: SortArgs.
-/
import Derived.Test.YtgkofipifjfjhaaGreatDoorSLRow
import Derived.Test.YtgkofipifjfjhaaGreatDoorSArgsM
import Derived.Test.YtgkofipifjfjhaaGreatDoorJQH
namespace Go.Proofs.YtgkofipifjfjhaaGreatDoor.Q
set_option linter.unusedSimpArgs false
set_option linter.unusedVariables false
open Go.RowKit

section
variable {P : Program} {ops : Array Oper} {Q : Exit → Act → World → Prop} {i j k : Nat} {r s t : Route} {a : Act} {w : World}
theorem WT.act_ (h : wpOp P ops Q i (fun a' w' => Ext w w' ∧ WT P ops Q r a' w') a w) : WT P ops Q (.act i r) a w := h
theorem WT.two_ (h1 : wpOp P ops Q i (fun a' w' => Ext w w' ∧ WT P ops Q r a' w') a w) (h2 : wpOp P ops Q j (fun a' w' => Ext w w' ∧ WT P ops Q s a' w') a w) : WT P ops Q (.two i r j s) a w := ⟨h1, h2⟩
theorem WT.three_ (h1 : wpOp P ops Q i (fun a' w' => Ext w w' ∧ WT P ops Q r a' w') a w) (h2 : wpOp P ops Q j (fun a' w' => Ext w w' ∧ WT P ops Q s a' w') a w) (h3 : wpOp P ops Q k (fun a' w' => Ext w w' ∧ WT P ops Q t a' w') a w) : WT P ops Q (.three i r j s k t) a w := ⟨h1, h2, h3⟩
end
/-- A drawn region told once, whatever order it drew. -/
theorem wp_region_to {P : Program} {id : Nat} {ops : Array Oper} {Q : Exit → Act → World → Prop} {a : Act} {w : World} (R : Act → Act → World → Prop) (h1 : (Code.region id ops true).wp P (fun c a' w' => c = .normal ∧ R a a' w') a w) (h2 : ∀ a' w', R a a' w' → Q .normal a' w') : (Code.region id ops true).wp P Q a w :=
  Code.wp_mono (fun e a' w' h => by obtain ⟨rfl, h⟩ := h; exact h2 a' w' h) h1
theorem box3s {w : World} {k : Nat} {x0 x1 x2 : Value} {T : TypeId} (h : Box w k #[x0, x1, x2] T) : (w.cell? ⟨k, 0, none⟩ = some x0 ∧ w.cell? ⟨k, 1, none⟩ = some x1 ∧ w.cell? ⟨k, 2, none⟩ = some x2) ∧ (w.frozen? ⟨k, 0, none⟩ = false ∧ w.frozen? ⟨k, 1, none⟩ = false ∧ w.frozen? ⟨k, 2, none⟩ = false) := ⟨⟨h.k 0, h.k 1, h.k 2⟩, h.free 0, h.free 1, h.free 2⟩
theorem Box.lowA {w w' : World} {g B : Nat} {cs : Array Value} {T : TypeId} (h : Box w g cs T) (hb : Below B w w') (hg : g < B) : Box w' g cs T := (hb.block g hg).trans h
theorem box045 {w : World} {k : Nat} {x0 x1 x2 x3 x4 x5 : Value} {T : TypeId} (h : Box w k #[x0, x1, x2, x3, x4, x5] T) : w.cell? ⟨k, 0, none⟩ = some x0 ∧ w.cell? ⟨k, 4, none⟩ = some x4 ∧ w.cell? ⟨k, 5, none⟩ = some x5 := ⟨h.k 0, h.k 4, h.k 5⟩
theorem put6_boxA {w : World} {k : Nat} {y0 y1 y2 y3 y4 y5 : Value} {T : TypeId} (h : Box w k #[y0, y1, y2, y3, y4, y5] T) (x0 x1 x2 x3 x4 x5 : Value) : Box (put6 w k x0 x1 x2 x3 x4 x5) k #[x0, x1, x2, x3, x4, x5] T := (((((h.setAt 0 x0).setAt 1 x1).setAt 2 x2).setAt 3 x3).setAt 4 x4).setAt 5 x5
def RoundA (w : World) (gs q : Nat) (iv : Value) (wr : World) : Prop := Box wr gs #[str [102], iv, .int .i64 1] 61 ∧ OwnI (gs + 1) wr iv (List.replicate q 2) ∧ Ext w wr
def RoundB (w w3 : World) (j q : Nat) (bo : Bool) (lv : Value) (wr : World) : Prop := OwnKV w3.heap.size w wr lv (M.SY [102] :: (List.range q).map (M.argEl j bo)) ∧ Ext w3 wr
set_option maxHeartbeats 40000000 in
set_option maxRecDepth 100000 in
theorem args_t {nI mI : Int} {bo : Bool} {k j : Nat} {w : World} (h0 : 0 ≤ nI) (h1 : nI ≤ 255) (g0 : 0 ≤ mI) (g1 : mI ≤ 255) (hr : nI % 4 = (k : Int)) (hr4 : (k : Int) < 4) (hs : mI % 5 = (j : Int)) (hs5 : (j : Int) < 5) (ht : TabT w) : Calls Tryz.prog 7 #[.int .u8 nI, .int .u8 mI, .bool bo] w (GivesB w true) := by
  have HKN := hid (known_t ht)
  have HTB := hid (fun w' (e : Ext w w') => ht.up e)
  clear ht
  go_enter Tryz.func7, Tryz.ntmps7
  go_wp2_with fail
  refine HKN.out.mono ?_
  rintro e w1 ⟨rfl, hx⟩
  have E := hid hx
  clear hx HKN
  go_upto_region 5 with (fail)
  clear hr hs
  refine swp_at (fun W => Box W w1.heap.size #[str [102], .slice none 0 0, .int .i64 1] 61 ∧ Ext w W) ⟨Box.new w1 _ _, E.out.alloc' _⟩ ?_
  have hwg := E.out.size
  clear E
  intro W ⟨hb0, he⟩
  obtain ⟨gs, hgs⟩ : ∃ g, w1.heap.size = g := ⟨_, rfl⟩
  rw [hgs] at hb0 hwg ⊢
  have HB := hid hb0
  have E := hid he
  have HWG := hid hwg
  clear hb0 he hgs hwg
  go_wp2_with fail
  go_loopw [10] (fun i wr => ∃ (q : Nat) (iv : Value), i = .int .i64 (q : Int) ∧ q ≤ k ∧ Hid (RoundA w gs q iv wr)) (fun i _ => k - (intOf i).toNat)
  case atStart => exact ⟨0, .slice none 0 0, rfl, Nat.zero_le _, HB.out, OwnI.nil _ _, E.out⟩
  case round =>
    obtain ⟨q, iv, rfl, hq, hR⟩ := hrel
    obtain ⟨hb0, hO, he⟩ := hR.out
    obtain ⟨IA, ic, hiv, hi1, hi2⟩ := kshape hO
    obtain ⟨m, hm⟩ : ∃ m, (List.replicate q (2 : Int)).length = m := ⟨_, rfl⟩
    have hmq : m = q := by rw [← hm, List.length_replicate]
    rw [hm] at hi1 hiv
    subst hiv
    rcases Nat.lt_or_ge q k with hlt | hge
    · have hlt' : (q : Int) < (k : Int) := by omega
      obtain ⟨⟨b0, b1, b2⟩, -⟩ := box3s hb0
      have hgl := hb0.lt
      have HB := hid hb0
      have HO := hid hO
      have E := hid he
      have HG := hid hgl
      clear hb0 hO he hR hm hmq hi1 hi2 hgl
      go_wp2_with (at_builtin; refine wpList_appI rfl (.tmp 32) (.tmp 33) rfl (base := gs + 1) (l := List.replicate q 2) (y := 2) (gL := wr.heap.size) (tL := 3) rfl rfl ?own ?box ?len ?base ?_)
      case own => exact HO.out.frame fun b _ hb => (Ext.alloc wr _).block b hb
      case box => exact Box.new wr _ _
      case len => rw [List.length_replicate]; omega
      case base => have := HG.out; simp; omega
      intro v' w5 hO5 hB5
      obtain ⟨A5, c5, hv5, -, -⟩ := kshape hO5
      obtain ⟨m5, hm5⟩ : ∃ m, (List.replicate q (2 : Int) ++ [2]).length = m := ⟨_, rfl⟩
      rw [hm5] at hv5
      subst hv5
      clear hm5
      obtain ⟨⟨d0, d1, d2⟩, ⟨f0, f1, f2⟩⟩ := box3s ((HB.out.alloc _).lowA hB5 (Nat.lt_succ_self _))
      have HB5 := hid ((HB.out.alloc _).lowA hB5 (Nat.lt_succ_self _))
      have h5 := HB5.out.lt
      have HO5 := hid hO5
      have E5 := hid (show Ext w w5 from Below.trans (B := w.heap.size) (E.out.alloc' _) (Below.mono hB5 (by have := HWG.out; omega)))
      clear hO5 hB5 b0 b1 b2
      go_wp2_with fail
      go_roundw
      case rel =>
        refine ⟨q + 1, .slice A5 m5 c5, by simp, by omega, HB5.out.setAt 1 _, ?_, E5.out.set' (by show w.heap.size ≤ gs; exact HWG.out) _⟩
        have h := HO5.out
        rw [show List.replicate q (2 : Int) ++ [2] = List.replicate (q + 1) 2 by simp [List.replicate_succ']] at h
        exact h.frame fun b hb1 hb2 => Below.heap_setCell _ _ _ _ (show b ≠ gs by omega)
      case measure => simp [intOf]; omega
    · obtain rfl : k = q := by omega
      obtain rfl : k = m := by omega
      have HB1 := hid hb0
      have HI1 := hid hO.ints
      have E1 := hid he
      clear hb0 hO he hR hm hi1 HB E hge hq hmq
      go_wp2_with fail
      refine (lsym_t [102] _).mono ?_
      rintro e w3 ⟨rfl, hb⟩
      replace HB1 := hid (HB1.out.up hb)
      replace HI1 := hid (HI1.out.up hb)
      replace E1 := hid (E1.out.trans hb)
      clear hb
      go_upto_region 10 with (fail)
      refine swp_at (fun W2 => OwnKV w3.heap.size w W2 (.slice (some ⟨w3.heap.size, 0, none⟩) 1 1) [M.SY [102]] ∧ Ext w3 W2) ⟨OwnKV.lit (t := M.SY [102]) (Kids.nil _) rfl (Nat.le_refl _), Ext.alloc _ _⟩ ?_
      intro W2 ⟨hO, he⟩
      have HO2 := hid hO
      have E2 := hid he
      clear hO he
      go_wp2_with fail
      go_loopw [11, 12] (fun lv i wr => ∃ (q : Nat) (LA : Option Addr) (ln lc : Nat), lv = .slice LA ln lc ∧ i = .int .i64 (q : Int) ∧ q ≤ j ∧ Hid (ln = q + 1 ∧ RoundB w w3 j q bo (.slice LA ln lc) wr)) (fun _ i _ => j - (intOf i).toNat)
      case atStart => exact ⟨0, _, 1, 1, rfl, rfl, Nat.zero_le _, rfl, HO2.out, E2.out⟩
      case round =>
        obtain ⟨q, LA, ln, lc, rfl, rfl, hq, hR⟩ := hrel
        obtain ⟨hln, hO, he⟩ := hR.out
        have HO := hid hO
        have ER := hid he
        have HLN := hid hln
        clear hO he hR hln
        rcases Nat.lt_or_ge q j with hlt | hge
        · have hlt' : (q : Int) < (j : Int) := by omega
          obtain ⟨jm, hjm'⟩ : ∃ m : Nat, m + 1 = j := ⟨j - 1, by omega⟩
          have hjm : (j : Int) - 1 = (jm : Int) := by omega
          have HJ := hid hjm'
          clear hjm'
          by_cases hc : bo = true ∧ q = jm
          · have HEL := hid (show M.argEl j bo q = M.SY [116, 114, 117, 101] by unfold M.argEl; rw [if_pos ⟨hc.1, by have := HJ.out; omega⟩])
            obtain ⟨rfl, rfl⟩ := hc
            have hqq : ((q : Int) == (q : Int)) = true := by simp
            go_wp2_with fail
            refine (lsym_t [116, 114, 117, 101] _).mono ?_
            rintro e w5 ⟨rfl, hb⟩
            have HB5 := hid hb
            clear hb
            go_wp2_with (at_builtin; refine wpList_appKV rfl (.tmp 50) (.tmp 52) rfl (base := w3.heap.size) (V := w) (l := M.SY [102] :: (List.range q).map (M.argEl j true)) (t := M.SY [116, 114, 117, 101]) (kd := .slice none 0 0) (gL := w5.heap.size) (tL := 26) rfl rfl ?own ?box (Kids.nil _) rfl ?len ?base ?_)
            case own => exact (HO.out.frame fun b _ hb _ => HB5.out.block b hb).frame fun b _ hb _ => (Ext.alloc w5 _).block b hb
            case box => exact Box.new _ _ _
            case len => simp; omega
            case base => have h1 := ER.out.size; have h2 := HB5.out.size; simp; omega
            intro v6 w6 hO6 hB6 hK6 hv6
            obtain ⟨A6, n6, c6, rfl, hn6⟩ : ∃ A n c, v6 = .slice A n c ∧ n = q + 1 + 1 := by
              obtain ⟨A, c, h⟩ := hO6.shape
              exact ⟨A, _, c, h, by simp⟩
            have HO6 := hid hO6
            have HN6 := hid hn6
            have E6 := hid (show Ext w3 w6 from Below.trans (B := w3.heap.size) ((ER.out.trans HB5.out).alloc' _) hB6)
            clear hO6 hB6 hK6 hv6 hn6
            go_wp2_with fail
            go_roundw
            case rel =>
              refine ⟨q + 1, A6, n6, c6, rfl, by simp, by omega, HN6.out, ?_, E6.out⟩
              rw [List.range_succ, List.map_append, List.map_cons, List.map_nil, HEL.out]
              exact HO6.out
            case measure => simp [intOf]; omega
          · have HEL := hid (show M.argEl j bo q = M.NU [51] by unfold M.argEl; rw [if_neg (fun h => hc ⟨h.1, by have := HJ.out; omega⟩)])
            have hbb : bo = false ∨ ((q : Int) == (jm : Int)) = false := by
              cases bo
              · exact .inl rfl
              · exact .inr (by simp; intro e; exact hc ⟨rfl, by omega⟩)
            clear hc
            rcases Bool.eq_false_or_eq_true bo with hbo | hbo
            · subst hbo
              replace hbb : ((q : Int) == (jm : Int)) = false := hbb.resolve_left (by decide)
              go_wp2_with fail
              refine (lnum_t [51] _).mono ?_
              rintro e w5 ⟨rfl, hb⟩
              have HB5 := hid hb
              clear hb
              go_wp2_with (at_builtin; refine wpList_appKV rfl (.tmp 54) (.tmp 56) rfl (base := w3.heap.size) (V := w) (l := M.SY [102] :: (List.range q).map (M.argEl j true)) (t := M.NU [51]) (kd := .slice none 0 0) (gL := w5.heap.size) (tL := 26) rfl rfl ?own ?box (Kids.nil _) rfl ?len ?base ?_)
              case own => exact (HO.out.frame fun b _ hb _ => HB5.out.block b hb).frame fun b _ hb _ => (Ext.alloc w5 _).block b hb
              case box => exact Box.new _ _ _
              case len => simp; omega
              case base => have h1 := ER.out.size; have h2 := HB5.out.size; simp; omega
              intro v6 w6 hO6 hB6 hK6 hv6
              obtain ⟨A6, n6, c6, rfl, hn6⟩ : ∃ A n c, v6 = .slice A n c ∧ n = q + 1 + 1 := by
                obtain ⟨A, c, h⟩ := hO6.shape
                exact ⟨A, _, c, h, by simp⟩
              have HO6 := hid hO6
              have HN6 := hid hn6
              have E6 := hid (show Ext w3 w6 from Below.trans (B := w3.heap.size) ((ER.out.trans HB5.out).alloc' _) hB6)
              clear hO6 hB6 hK6 hv6 hn6
              go_wp2_with fail
              go_roundw
              case rel =>
                refine ⟨q + 1, A6, n6, c6, rfl, by simp, by omega, HN6.out, ?_, E6.out⟩
                rw [List.range_succ, List.map_append, List.map_cons, List.map_nil, HEL.out]
                exact HO6.out
              case measure => simp [intOf]; omega
            · subst hbo
              clear hbb
              go_wp2_with fail
              refine (lnum_t [51] _).mono ?_
              rintro e w5 ⟨rfl, hb⟩
              have HB5 := hid hb
              clear hb
              go_wp2_with (at_builtin; refine wpList_appKV rfl (.tmp 54) (.tmp 56) rfl (base := w3.heap.size) (V := w) (l := M.SY [102] :: (List.range q).map (M.argEl j false)) (t := M.NU [51]) (kd := .slice none 0 0) (gL := w5.heap.size) (tL := 26) rfl rfl ?own ?box (Kids.nil _) rfl ?len ?base ?_)
              case own => exact (HO.out.frame fun b _ hb _ => HB5.out.block b hb).frame fun b _ hb _ => (Ext.alloc w5 _).block b hb
              case box => exact Box.new _ _ _
              case len => simp; omega
              case base => have h1 := ER.out.size; have h2 := HB5.out.size; simp; omega
              intro v6 w6 hO6 hB6 hK6 hv6
              obtain ⟨A6, n6, c6, rfl, hn6⟩ : ∃ A n c, v6 = .slice A n c ∧ n = q + 1 + 1 := by
                obtain ⟨A, c, h⟩ := hO6.shape
                exact ⟨A, _, c, h, by simp⟩
              have HO6 := hid hO6
              have HN6 := hid hn6
              have E6 := hid (show Ext w3 w6 from Below.trans (B := w3.heap.size) ((ER.out.trans HB5.out).alloc' _) hB6)
              clear hO6 hB6 hK6 hv6 hn6
              go_wp2_with fail
              go_roundw
              case rel =>
                refine ⟨q + 1, A6, n6, c6, rfl, by simp, by omega, HN6.out, ?_, E6.out⟩
                rw [List.range_succ, List.map_append, List.map_cons, List.map_nil, HEL.out]
                exact HO6.out
              case measure => simp [intOf]; omega
        · obtain rfl : j = q := by omega
          have HKL := hid (show Kids wr (M.SY [102] :: (List.range j).map (M.argEl j bo)) (.slice LA ln lc) from HO.out.kids ((E1.out.trans ER.out).sub))
          replace HB1 := hid (HB1.out.up ER.out)
          replace HI1 := hid (HI1.out.up ER.out)
          replace E1 := hid (E1.out.trans ER.out)
          clear HO ER HO2 E2 hge hq
          have hj5 : j < 5 := by omega
          have hk4 : k < 4 := by omega
          have hargs : (M.argS k).args = List.replicate k 2 := rfl
          have hnm : ∀ s ∈ [M.argS k], s.name.length ≤ 1000000000000 := fun s hs => by simp at hs; subst hs; show 1 ≤ 1000000000000; omega
          have HE := M.arg_errs ⟨k, hk4⟩ ⟨j, hj5⟩ bo
          have HTM := M.arg_terms ⟨k, hk4⟩ ⟨j, hj5⟩ bo
          have HTXa := M.arg_txt ⟨j, hj5⟩ bo
          have HE2 := M.arg_name ⟨k, hk4⟩
          simp only at HE HTM HTXa HE2
          have HTX := hid HTXa
          obtain ⟨⟨T, et⟩, hT⟩ : ∃ r, M.rTerm M.barred [M.argS k] (M.argT j bo) = r := ⟨_, rfl⟩
          obtain ⟨⟨T2, e2⟩, hR2⟩ : ∃ r, M.rTerm M.barred [M.argS k] (M.SY [102]) = r := ⟨_, rfl⟩
          rw [hT] at HE HTM
          rw [hR2] at HE2
          have HT := hid hT
          have HT2 := hid hR2
          have HEE := hid HE
          have HEE2 := hid HE2
          have HTMM := hid HTM
          have HARG := hid hargs
          have HNM := hid hnm
          clear hT hR2 HE HTXa HE2 HTM
          go_wp2_with fail
          refine wp_region_to (fun a0 a' w' => ∃ (gr gv : Nat) (N : Option Addr) (nn nc : Nat) (A : Option Addr) (n c : Nat), a' = ((((((((((a0.put (some 59) (.slice LA ln lc)).put (some 61) (.agg #[str [102], .slice IA k ic, .int .i64 1])).put (some 60) (tv true (0, []) LA ln lc)).put (some 62) (.slice (some ⟨gr, 0, none⟩) 1 1)).put (some 63) (.tuple #[kv T.op T.g N nn nc T.name T.sort A n c, .int .i64 et])).put (some 58) (.tuple #[kv T.op T.g N nn nc T.name T.sort A n c, .int .i64 et])).put (some 64) (kv T.op T.g N nn nc T.name T.sort A n c)).put (some 65) (.int .i64 et)).put (some 13) (.pointer (some ⟨gv, 0, none⟩))).put (some 14) (.int .i64 et)) ∧ n = T.kids.length ∧ Box w' gv #[.int .i64 T.op, .bool T.g, .slice N nn nc, str T.name, .int .i64 T.sort, .slice A n c] 33 ∧ Ext wr w') ?_ ?_
          · refine wp_region_R (.pure 0 (.pure 2 (.three 1 (.two 3 (.two 4 (.pure 5 (.pure 6 (.any 7 (.act 8 (.late 9 (.any 10 .done)))))) 8 (.act 4 (.pure 5 (.pure 6 (.any 7 (.late 9 (.any 10 .done))))))) 8 (.act 3 (.act 4 (.pure 5 (.pure 6 (.any 7 (.late 9 (.any 10 .done)))))))) 3 (.two 1 (.two 4 (.pure 5 (.pure 6 (.any 7 (.act 8 (.late 9 (.any 10 .done)))))) 8 (.act 4 (.pure 5 (.pure 6 (.any 7 (.late 9 (.any 10 .done))))))) 8 (.act 1 (.act 4 (.pure 5 (.pure 6 (.any 7 (.late 9 (.any 10 .done)))))))) 8 (.two 1 (.act 3 (.act 4 (.pure 5 (.pure 6 (.any 7 (.late 9 (.any 10 .done))))))) 3 (.act 1 (.act 4 (.pure 5 (.pure 6 (.any 7 (.late 9 (.any 10 .done))))))))))) (fun wd hb => ?_) rfl (by kernel_rfl) (fun c a d v w => ⟨fun h => (nomatch h.1), fun h => (nomatch h.1)⟩)
            have E := hid hb
            clear hb
            refine WT.p 59 (.slice LA ln lc) ?_
            simp only [Act.put, pA, pB, pC]
            refine WT.q 61 (.agg #[str [102], .slice IA k ic, .int .i64 1]) rfl (fun w' hk => by obtain ⟨⟨x0, x1, x2⟩, -⟩ := box3s ((HB1.out.up E.out).up hk); go_simp) ?_
            simp only [Act.put, pA, pB, pC]
            refine WT.three_ ?_ ?_ ?_
            · refine wpOp_callT 60 ((llist_t LA ln lc _).mono ?_)
              rintro e wq1 ⟨rfl, hx⟩
              refine ⟨_, rfl, hx, ?_⟩
              replace E := hid (E.out.trans hx)
              clear hx
              simp only [Act.put, pA, pB, pC]
              refine WT.two_ ?_ ?_
              · refine wpOp_newT 62 (cs := #[str [102], .slice IA k ic, .int .i64 1]) (t := 61) (v := .slice (some ⟨wq1.heap.size, 0, none⟩) 1 1) (fun wq2 hx hbx => ?_)
                replace E := hid (E.out.trans hx)
                have BR := hid hbx
                clear hx hbx
                simp only [Act.put, pA, pB, pC]
                refine WT.two_ ?_ ?_
                · refine wpOp_callT 63 ((term_givesS (l := [M.argS k]) HT.out HTX.out (isT_list (HKL.out.up E.out)) (sgs_one (s := M.argS k) BR.out (by rw [hargs]; exact HI1.out.up E.out)) hnm (HTB.out _ (E1.out.trans E.out)).1).mono ?_)
                  rintro e wq3 ⟨v, rfl, hT, hx⟩
                  obtain ⟨N, nn, nc, A, n, c, rfl, hn, -, -, -, -, -⟩ := hT.shape
                  refine ⟨_, rfl, hx, ?_⟩
                  have HN := hid hn
                  replace E := hid (E.out.trans hx)
                  replace BR := hid (BR.out.up hx)
                  clear hT hx hn
                  simp only [Act.put, pA, pB, pC]
                  refine WT.p 58 (.tuple #[kv T.op T.g N nn nc T.name T.sort A n c, .int .i64 et]) ?_
                  simp only [Act.put, pA, pB, pC]
                  refine WT.p 64 (kv T.op T.g N nn nc T.name T.sort A n c) ?_
                  simp only [Act.put, pA, pB, pC]
                  refine WT.y 65 (.int .i64 et) ?_
                  simp only [Act.put, pA, pB, pC]
                  refine WT.act_ ?_
                  have HGV := hid E.out.size
                  refine wpOp_newT 13 (cs := zero6) (t := 33) (v := .pointer (some ⟨wq3.heap.size, 0, none⟩)) (fun wq4 hx hbx => ?_)
                  replace E := hid (E.out.trans hx)
                  replace BR := hid (BR.out.up hx)
                  have BV := hid hbx
                  clear hx hbx
                  simp only [Act.put, pA, pB, pC]
                  obtain ⟨⟨z0, z1, z2, z3, z4, z5⟩, ⟨a0, a1, a2, a3, a4, a5⟩, hz⟩ := boxF6 BV.out
                  refine WT.st (w' := put6 wq4 wq3.heap.size (.int .i64 T.op) (.bool T.g) (.slice N nn nc) (str T.name) (.int .i64 T.sort) (.slice A n c)) ?_
                  refine WT.y 14 (.int .i64 et) ?_
                  exact WT.done_ ⟨rfl, wq1.heap.size, wq3.heap.size, N, nn, nc, A, n, c, by simp only [Act.put, pA, pB, pC], HN.out, put6_boxA BV.out _ _ _ _ _ _, put6_ext E.out HGV.out⟩
                · have HGV := hid E.out.size
                  refine wpOp_newT 13 (cs := zero6) (t := 33) (v := .pointer (some ⟨wq2.heap.size, 0, none⟩)) (fun wq5 hx hbx => ?_)
                  replace E := hid (E.out.trans hx)
                  replace BR := hid (BR.out.up hx)
                  have BV := hid hbx
                  clear hx hbx
                  simp only [Act.put, pA, pB, pC]
                  refine WT.act_ ?_
                  refine wpOp_callT 63 ((term_givesS (l := [M.argS k]) HT.out HTX.out (isT_list (HKL.out.up E.out)) (sgs_one (s := M.argS k) BR.out (by rw [hargs]; exact HI1.out.up E.out)) hnm (HTB.out _ (E1.out.trans E.out)).1).mono ?_)
                  rintro e wq6 ⟨v, rfl, hT, hx⟩
                  obtain ⟨N, nn, nc, A, n, c, rfl, hn, -, -, -, -, -⟩ := hT.shape
                  refine ⟨_, rfl, hx, ?_⟩
                  have HN := hid hn
                  replace E := hid (E.out.trans hx)
                  replace BR := hid (BR.out.up hx)
                  replace BV := hid (BV.out.up hx)
                  clear hT hx hn
                  simp only [Act.put, pA, pB, pC]
                  refine WT.p 58 (.tuple #[kv T.op T.g N nn nc T.name T.sort A n c, .int .i64 et]) ?_
                  simp only [Act.put, pA, pB, pC]
                  refine WT.p 64 (kv T.op T.g N nn nc T.name T.sort A n c) ?_
                  simp only [Act.put, pA, pB, pC]
                  refine WT.y 65 (.int .i64 et) ?_
                  simp only [Act.put, pA, pB, pC]
                  obtain ⟨⟨z0, z1, z2, z3, z4, z5⟩, ⟨a0, a1, a2, a3, a4, a5⟩, hz⟩ := boxF6 BV.out
                  refine WT.st (w' := put6 wq6 wq2.heap.size (.int .i64 T.op) (.bool T.g) (.slice N nn nc) (str T.name) (.int .i64 T.sort) (.slice A n c)) ?_
                  refine WT.y 14 (.int .i64 et) ?_
                  exact WT.done_ ⟨rfl, wq1.heap.size, wq2.heap.size, N, nn, nc, A, n, c, by simp only [Act.put, pA, pB, pC], HN.out, put6_boxA BV.out _ _ _ _ _ _, put6_ext E.out HGV.out⟩
              · have HGV := hid E.out.size
                refine wpOp_newT 13 (cs := zero6) (t := 33) (v := .pointer (some ⟨wq1.heap.size, 0, none⟩)) (fun wq7 hx hbx => ?_)
                replace E := hid (E.out.trans hx)
                have BV := hid hbx
                clear hx hbx
                simp only [Act.put, pA, pB, pC]
                refine WT.act_ ?_
                refine wpOp_newT 62 (cs := #[str [102], .slice IA k ic, .int .i64 1]) (t := 61) (v := .slice (some ⟨wq7.heap.size, 0, none⟩) 1 1) (fun wq8 hx hbx => ?_)
                replace E := hid (E.out.trans hx)
                replace BV := hid (BV.out.up hx)
                have BR := hid hbx
                clear hx hbx
                simp only [Act.put, pA, pB, pC]
                refine WT.act_ ?_
                refine wpOp_callT 63 ((term_givesS (l := [M.argS k]) HT.out HTX.out (isT_list (HKL.out.up E.out)) (sgs_one (s := M.argS k) BR.out (by rw [hargs]; exact HI1.out.up E.out)) hnm (HTB.out _ (E1.out.trans E.out)).1).mono ?_)
                rintro e wq9 ⟨v, rfl, hT, hx⟩
                obtain ⟨N, nn, nc, A, n, c, rfl, hn, -, -, -, -, -⟩ := hT.shape
                refine ⟨_, rfl, hx, ?_⟩
                have HN := hid hn
                replace E := hid (E.out.trans hx)
                replace BR := hid (BR.out.up hx)
                replace BV := hid (BV.out.up hx)
                clear hT hx hn
                simp only [Act.put, pA, pB, pC]
                refine WT.p 58 (.tuple #[kv T.op T.g N nn nc T.name T.sort A n c, .int .i64 et]) ?_
                simp only [Act.put, pA, pB, pC]
                refine WT.p 64 (kv T.op T.g N nn nc T.name T.sort A n c) ?_
                simp only [Act.put, pA, pB, pC]
                refine WT.y 65 (.int .i64 et) ?_
                simp only [Act.put, pA, pB, pC]
                obtain ⟨⟨z0, z1, z2, z3, z4, z5⟩, ⟨a0, a1, a2, a3, a4, a5⟩, hz⟩ := boxF6 BV.out
                refine WT.st (w' := put6 wq9 wq1.heap.size (.int .i64 T.op) (.bool T.g) (.slice N nn nc) (str T.name) (.int .i64 T.sort) (.slice A n c)) ?_
                refine WT.y 14 (.int .i64 et) ?_
                exact WT.done_ ⟨rfl, wq7.heap.size, wq1.heap.size, N, nn, nc, A, n, c, by simp only [Act.put, pA, pB, pC], HN.out, put6_boxA BV.out _ _ _ _ _ _, put6_ext E.out HGV.out⟩
            · refine wpOp_newT 62 (cs := #[str [102], .slice IA k ic, .int .i64 1]) (t := 61) (v := .slice (some ⟨wd.heap.size, 0, none⟩) 1 1) (fun wq10 hx hbx => ?_)
              replace E := hid (E.out.trans hx)
              have BR := hid hbx
              clear hx hbx
              simp only [Act.put, pA, pB, pC]
              refine WT.two_ ?_ ?_
              · refine wpOp_callT 60 ((llist_t LA ln lc _).mono ?_)
                rintro e wq11 ⟨rfl, hx⟩
                refine ⟨_, rfl, hx, ?_⟩
                replace E := hid (E.out.trans hx)
                replace BR := hid (BR.out.up hx)
                clear hx
                simp only [Act.put, pA, pB, pC]
                refine WT.two_ ?_ ?_
                · refine wpOp_callT 63 ((term_givesS (l := [M.argS k]) HT.out HTX.out (isT_list (HKL.out.up E.out)) (sgs_one (s := M.argS k) BR.out (by rw [hargs]; exact HI1.out.up E.out)) hnm (HTB.out _ (E1.out.trans E.out)).1).mono ?_)
                  rintro e wq12 ⟨v, rfl, hT, hx⟩
                  obtain ⟨N, nn, nc, A, n, c, rfl, hn, -, -, -, -, -⟩ := hT.shape
                  refine ⟨_, rfl, hx, ?_⟩
                  have HN := hid hn
                  replace E := hid (E.out.trans hx)
                  replace BR := hid (BR.out.up hx)
                  clear hT hx hn
                  simp only [Act.put, pA, pB, pC]
                  refine WT.p 58 (.tuple #[kv T.op T.g N nn nc T.name T.sort A n c, .int .i64 et]) ?_
                  simp only [Act.put, pA, pB, pC]
                  refine WT.p 64 (kv T.op T.g N nn nc T.name T.sort A n c) ?_
                  simp only [Act.put, pA, pB, pC]
                  refine WT.y 65 (.int .i64 et) ?_
                  simp only [Act.put, pA, pB, pC]
                  refine WT.act_ ?_
                  have HGV := hid E.out.size
                  refine wpOp_newT 13 (cs := zero6) (t := 33) (v := .pointer (some ⟨wq12.heap.size, 0, none⟩)) (fun wq13 hx hbx => ?_)
                  replace E := hid (E.out.trans hx)
                  replace BR := hid (BR.out.up hx)
                  have BV := hid hbx
                  clear hx hbx
                  simp only [Act.put, pA, pB, pC]
                  obtain ⟨⟨z0, z1, z2, z3, z4, z5⟩, ⟨a0, a1, a2, a3, a4, a5⟩, hz⟩ := boxF6 BV.out
                  refine WT.st (w' := put6 wq13 wq12.heap.size (.int .i64 T.op) (.bool T.g) (.slice N nn nc) (str T.name) (.int .i64 T.sort) (.slice A n c)) ?_
                  refine WT.y 14 (.int .i64 et) ?_
                  exact WT.done_ ⟨rfl, wd.heap.size, wq12.heap.size, N, nn, nc, A, n, c, by simp only [Act.put, pA, pB, pC], HN.out, put6_boxA BV.out _ _ _ _ _ _, put6_ext E.out HGV.out⟩
                · have HGV := hid E.out.size
                  refine wpOp_newT 13 (cs := zero6) (t := 33) (v := .pointer (some ⟨wq11.heap.size, 0, none⟩)) (fun wq14 hx hbx => ?_)
                  replace E := hid (E.out.trans hx)
                  replace BR := hid (BR.out.up hx)
                  have BV := hid hbx
                  clear hx hbx
                  simp only [Act.put, pA, pB, pC]
                  refine WT.act_ ?_
                  refine wpOp_callT 63 ((term_givesS (l := [M.argS k]) HT.out HTX.out (isT_list (HKL.out.up E.out)) (sgs_one (s := M.argS k) BR.out (by rw [hargs]; exact HI1.out.up E.out)) hnm (HTB.out _ (E1.out.trans E.out)).1).mono ?_)
                  rintro e wq15 ⟨v, rfl, hT, hx⟩
                  obtain ⟨N, nn, nc, A, n, c, rfl, hn, -, -, -, -, -⟩ := hT.shape
                  refine ⟨_, rfl, hx, ?_⟩
                  have HN := hid hn
                  replace E := hid (E.out.trans hx)
                  replace BR := hid (BR.out.up hx)
                  replace BV := hid (BV.out.up hx)
                  clear hT hx hn
                  simp only [Act.put, pA, pB, pC]
                  refine WT.p 58 (.tuple #[kv T.op T.g N nn nc T.name T.sort A n c, .int .i64 et]) ?_
                  simp only [Act.put, pA, pB, pC]
                  refine WT.p 64 (kv T.op T.g N nn nc T.name T.sort A n c) ?_
                  simp only [Act.put, pA, pB, pC]
                  refine WT.y 65 (.int .i64 et) ?_
                  simp only [Act.put, pA, pB, pC]
                  obtain ⟨⟨z0, z1, z2, z3, z4, z5⟩, ⟨a0, a1, a2, a3, a4, a5⟩, hz⟩ := boxF6 BV.out
                  refine WT.st (w' := put6 wq15 wq11.heap.size (.int .i64 T.op) (.bool T.g) (.slice N nn nc) (str T.name) (.int .i64 T.sort) (.slice A n c)) ?_
                  refine WT.y 14 (.int .i64 et) ?_
                  exact WT.done_ ⟨rfl, wd.heap.size, wq11.heap.size, N, nn, nc, A, n, c, by simp only [Act.put, pA, pB, pC], HN.out, put6_boxA BV.out _ _ _ _ _ _, put6_ext E.out HGV.out⟩
              · have HGV := hid E.out.size
                refine wpOp_newT 13 (cs := zero6) (t := 33) (v := .pointer (some ⟨wq10.heap.size, 0, none⟩)) (fun wq16 hx hbx => ?_)
                replace E := hid (E.out.trans hx)
                replace BR := hid (BR.out.up hx)
                have BV := hid hbx
                clear hx hbx
                simp only [Act.put, pA, pB, pC]
                refine WT.act_ ?_
                refine wpOp_callT 60 ((llist_t LA ln lc _).mono ?_)
                rintro e wq17 ⟨rfl, hx⟩
                refine ⟨_, rfl, hx, ?_⟩
                replace E := hid (E.out.trans hx)
                replace BR := hid (BR.out.up hx)
                replace BV := hid (BV.out.up hx)
                clear hx
                simp only [Act.put, pA, pB, pC]
                refine WT.act_ ?_
                refine wpOp_callT 63 ((term_givesS (l := [M.argS k]) HT.out HTX.out (isT_list (HKL.out.up E.out)) (sgs_one (s := M.argS k) BR.out (by rw [hargs]; exact HI1.out.up E.out)) hnm (HTB.out _ (E1.out.trans E.out)).1).mono ?_)
                rintro e wq18 ⟨v, rfl, hT, hx⟩
                obtain ⟨N, nn, nc, A, n, c, rfl, hn, -, -, -, -, -⟩ := hT.shape
                refine ⟨_, rfl, hx, ?_⟩
                have HN := hid hn
                replace E := hid (E.out.trans hx)
                replace BR := hid (BR.out.up hx)
                replace BV := hid (BV.out.up hx)
                clear hT hx hn
                simp only [Act.put, pA, pB, pC]
                refine WT.p 58 (.tuple #[kv T.op T.g N nn nc T.name T.sort A n c, .int .i64 et]) ?_
                simp only [Act.put, pA, pB, pC]
                refine WT.p 64 (kv T.op T.g N nn nc T.name T.sort A n c) ?_
                simp only [Act.put, pA, pB, pC]
                refine WT.y 65 (.int .i64 et) ?_
                simp only [Act.put, pA, pB, pC]
                obtain ⟨⟨z0, z1, z2, z3, z4, z5⟩, ⟨a0, a1, a2, a3, a4, a5⟩, hz⟩ := boxF6 BV.out
                refine WT.st (w' := put6 wq18 wq10.heap.size (.int .i64 T.op) (.bool T.g) (.slice N nn nc) (str T.name) (.int .i64 T.sort) (.slice A n c)) ?_
                refine WT.y 14 (.int .i64 et) ?_
                exact WT.done_ ⟨rfl, wd.heap.size, wq10.heap.size, N, nn, nc, A, n, c, by simp only [Act.put, pA, pB, pC], HN.out, put6_boxA BV.out _ _ _ _ _ _, put6_ext E.out HGV.out⟩
            · have HGV := hid E.out.size
              refine wpOp_newT 13 (cs := zero6) (t := 33) (v := .pointer (some ⟨wd.heap.size, 0, none⟩)) (fun wq19 hx hbx => ?_)
              replace E := hid (E.out.trans hx)
              have BV := hid hbx
              clear hx hbx
              simp only [Act.put, pA, pB, pC]
              refine WT.two_ ?_ ?_
              · refine wpOp_callT 60 ((llist_t LA ln lc _).mono ?_)
                rintro e wq20 ⟨rfl, hx⟩
                refine ⟨_, rfl, hx, ?_⟩
                replace E := hid (E.out.trans hx)
                replace BV := hid (BV.out.up hx)
                clear hx
                simp only [Act.put, pA, pB, pC]
                refine WT.act_ ?_
                refine wpOp_newT 62 (cs := #[str [102], .slice IA k ic, .int .i64 1]) (t := 61) (v := .slice (some ⟨wq20.heap.size, 0, none⟩) 1 1) (fun wq21 hx hbx => ?_)
                replace E := hid (E.out.trans hx)
                replace BV := hid (BV.out.up hx)
                have BR := hid hbx
                clear hx hbx
                simp only [Act.put, pA, pB, pC]
                refine WT.act_ ?_
                refine wpOp_callT 63 ((term_givesS (l := [M.argS k]) HT.out HTX.out (isT_list (HKL.out.up E.out)) (sgs_one (s := M.argS k) BR.out (by rw [hargs]; exact HI1.out.up E.out)) hnm (HTB.out _ (E1.out.trans E.out)).1).mono ?_)
                rintro e wq22 ⟨v, rfl, hT, hx⟩
                obtain ⟨N, nn, nc, A, n, c, rfl, hn, -, -, -, -, -⟩ := hT.shape
                refine ⟨_, rfl, hx, ?_⟩
                have HN := hid hn
                replace E := hid (E.out.trans hx)
                replace BR := hid (BR.out.up hx)
                replace BV := hid (BV.out.up hx)
                clear hT hx hn
                simp only [Act.put, pA, pB, pC]
                refine WT.p 58 (.tuple #[kv T.op T.g N nn nc T.name T.sort A n c, .int .i64 et]) ?_
                simp only [Act.put, pA, pB, pC]
                refine WT.p 64 (kv T.op T.g N nn nc T.name T.sort A n c) ?_
                simp only [Act.put, pA, pB, pC]
                refine WT.y 65 (.int .i64 et) ?_
                simp only [Act.put, pA, pB, pC]
                obtain ⟨⟨z0, z1, z2, z3, z4, z5⟩, ⟨a0, a1, a2, a3, a4, a5⟩, hz⟩ := boxF6 BV.out
                refine WT.st (w' := put6 wq22 wd.heap.size (.int .i64 T.op) (.bool T.g) (.slice N nn nc) (str T.name) (.int .i64 T.sort) (.slice A n c)) ?_
                refine WT.y 14 (.int .i64 et) ?_
                exact WT.done_ ⟨rfl, wq20.heap.size, wd.heap.size, N, nn, nc, A, n, c, by simp only [Act.put, pA, pB, pC], HN.out, put6_boxA BV.out _ _ _ _ _ _, put6_ext E.out HGV.out⟩
              · refine wpOp_newT 62 (cs := #[str [102], .slice IA k ic, .int .i64 1]) (t := 61) (v := .slice (some ⟨wq19.heap.size, 0, none⟩) 1 1) (fun wq23 hx hbx => ?_)
                replace E := hid (E.out.trans hx)
                replace BV := hid (BV.out.up hx)
                have BR := hid hbx
                clear hx hbx
                simp only [Act.put, pA, pB, pC]
                refine WT.act_ ?_
                refine wpOp_callT 60 ((llist_t LA ln lc _).mono ?_)
                rintro e wq24 ⟨rfl, hx⟩
                refine ⟨_, rfl, hx, ?_⟩
                replace E := hid (E.out.trans hx)
                replace BR := hid (BR.out.up hx)
                replace BV := hid (BV.out.up hx)
                clear hx
                simp only [Act.put, pA, pB, pC]
                refine WT.act_ ?_
                refine wpOp_callT 63 ((term_givesS (l := [M.argS k]) HT.out HTX.out (isT_list (HKL.out.up E.out)) (sgs_one (s := M.argS k) BR.out (by rw [hargs]; exact HI1.out.up E.out)) hnm (HTB.out _ (E1.out.trans E.out)).1).mono ?_)
                rintro e wq25 ⟨v, rfl, hT, hx⟩
                obtain ⟨N, nn, nc, A, n, c, rfl, hn, -, -, -, -, -⟩ := hT.shape
                refine ⟨_, rfl, hx, ?_⟩
                have HN := hid hn
                replace E := hid (E.out.trans hx)
                replace BR := hid (BR.out.up hx)
                replace BV := hid (BV.out.up hx)
                clear hT hx hn
                simp only [Act.put, pA, pB, pC]
                refine WT.p 58 (.tuple #[kv T.op T.g N nn nc T.name T.sort A n c, .int .i64 et]) ?_
                simp only [Act.put, pA, pB, pC]
                refine WT.p 64 (kv T.op T.g N nn nc T.name T.sort A n c) ?_
                simp only [Act.put, pA, pB, pC]
                refine WT.y 65 (.int .i64 et) ?_
                simp only [Act.put, pA, pB, pC]
                obtain ⟨⟨z0, z1, z2, z3, z4, z5⟩, ⟨a0, a1, a2, a3, a4, a5⟩, hz⟩ := boxF6 BV.out
                refine WT.st (w' := put6 wq25 wd.heap.size (.int .i64 T.op) (.bool T.g) (.slice N nn nc) (str T.name) (.int .i64 T.sort) (.slice A n c)) ?_
                refine WT.y 14 (.int .i64 et) ?_
                exact WT.done_ ⟨rfl, wq19.heap.size, wd.heap.size, N, nn, nc, A, n, c, by simp only [Act.put, pA, pB, pC], HN.out, put6_boxA BV.out _ _ _ _ _ _, put6_ext E.out HGV.out⟩
          rintro a' w16 ⟨gr, gv, N, nn, nc, A, n, c, rfl, hn, hbv, he⟩
          simp only [Act.put, pA, pB, pC]
          have HN16 := hid hn
          have HB16 := hid hbv
          have E16 := hid he
          clear hn hbv he
          replace HB1 := hid (HB1.out.up E16.out)
          replace HI1 := hid (HI1.out.up E16.out)
          replace E1 := hid (E1.out.trans E16.out)
          have hargs := HARG.out
          have hnm := HNM.out
          have HTX2 := hid (show M.txtN (M.SY [102]) = true by simp [M.txtN, M.txtNs])
          clear HT HTX HKL E16
          go_wp2_with fail
          refine wp_region_to (fun a0 a' w' => ∃ (gr gv : Nat) (N : Option Addr) (nn nc : Nat) (A : Option Addr) (n c : Nat), a' = (((((((((a0.put (some 68) (.agg #[str [102], .slice IA k ic, .int .i64 1])).put (some 67) (tv false (4, [102]) none 0 0)).put (some 69) (.slice (some ⟨gr, 0, none⟩) 1 1)).put (some 70) (.tuple #[kv T2.op T2.g N nn nc T2.name T2.sort A n c, .int .i64 e2])).put (some 66) (.tuple #[kv T2.op T2.g N nn nc T2.name T2.sort A n c, .int .i64 e2])).put (some 71) (kv T2.op T2.g N nn nc T2.name T2.sort A n c)).put (some 72) (.int .i64 e2)).put (some 15) (.pointer (some ⟨gv, 0, none⟩))).put (some 16) (.int .i64 e2)) ∧ n = T2.kids.length ∧ Box w' gv #[.int .i64 T2.op, .bool T2.g, .slice N nn nc, str T2.name, .int .i64 T2.sort, .slice A n c] 33 ∧ Ext w16 w') ?_ ?_
          · refine wp_region_R (.pure 1 (.three 0 (.two 2 (.two 3 (.pure 4 (.pure 5 (.any 6 (.act 7 (.late 8 (.any 9 .done)))))) 7 (.act 3 (.pure 4 (.pure 5 (.any 6 (.late 8 (.any 9 .done))))))) 7 (.act 2 (.act 3 (.pure 4 (.pure 5 (.any 6 (.late 8 (.any 9 .done)))))))) 2 (.two 0 (.two 3 (.pure 4 (.pure 5 (.any 6 (.act 7 (.late 8 (.any 9 .done)))))) 7 (.act 3 (.pure 4 (.pure 5 (.any 6 (.late 8 (.any 9 .done))))))) 7 (.act 0 (.act 3 (.pure 4 (.pure 5 (.any 6 (.late 8 (.any 9 .done)))))))) 7 (.two 0 (.act 2 (.act 3 (.pure 4 (.pure 5 (.any 6 (.late 8 (.any 9 .done))))))) 2 (.act 0 (.act 3 (.pure 4 (.pure 5 (.any 6 (.late 8 (.any 9 .done)))))))))) (fun wd hb => ?_) rfl (by kernel_rfl) (fun c a d v w => ⟨fun h => (nomatch h.1), fun h => (nomatch h.1)⟩)
            have E := hid hb
            clear hb
            refine WT.q 68 (.agg #[str [102], .slice IA k ic, .int .i64 1]) rfl (fun w' hk => by obtain ⟨⟨x0, x1, x2⟩, -⟩ := box3s ((HB1.out.up E.out).up hk); go_simp) ?_
            simp only [Act.put, pA, pB, pC]
            refine WT.three_ ?_ ?_ ?_
            · refine wpOp_callT 67 ((lsym_t [102] _).mono ?_)
              rintro e wq1 ⟨rfl, hx⟩
              refine ⟨_, rfl, hx, ?_⟩
              replace E := hid (E.out.trans hx)
              clear hx
              simp only [Act.put, pA, pB, pC]
              refine WT.two_ ?_ ?_
              · refine wpOp_newT 69 (cs := #[str [102], .slice IA k ic, .int .i64 1]) (t := 61) (v := .slice (some ⟨wq1.heap.size, 0, none⟩) 1 1) (fun wq2 hx hbx => ?_)
                replace E := hid (E.out.trans hx)
                have BR := hid hbx
                clear hx hbx
                simp only [Act.put, pA, pB, pC]
                refine WT.two_ ?_ ?_
                · refine wpOp_callT 70 ((term_givesS (l := [M.argS k]) HT2.out HTX2.out (show IsT _ (M.SY [102]) (tv false (4, [102]) none 0 0) from ⟨none, 0, rfl, Kids.nil _⟩) (sgs_one (s := M.argS k) BR.out (by rw [hargs]; exact HI1.out.up E.out)) hnm (HTB.out _ (E1.out.trans E.out)).1).mono ?_)
                  rintro e wq3 ⟨v, rfl, hT, hx⟩
                  obtain ⟨N, nn, nc, A, n, c, rfl, hn, -, -, -, -, -⟩ := hT.shape
                  refine ⟨_, rfl, hx, ?_⟩
                  have HN := hid hn
                  replace E := hid (E.out.trans hx)
                  replace BR := hid (BR.out.up hx)
                  clear hT hx hn
                  simp only [Act.put, pA, pB, pC]
                  refine WT.p 66 (.tuple #[kv T2.op T2.g N nn nc T2.name T2.sort A n c, .int .i64 e2]) ?_
                  simp only [Act.put, pA, pB, pC]
                  refine WT.p 71 (kv T2.op T2.g N nn nc T2.name T2.sort A n c) ?_
                  simp only [Act.put, pA, pB, pC]
                  refine WT.y 72 (.int .i64 e2) ?_
                  simp only [Act.put, pA, pB, pC]
                  refine WT.act_ ?_
                  have HGV := hid E.out.size
                  refine wpOp_newT 15 (cs := zero6) (t := 33) (v := .pointer (some ⟨wq3.heap.size, 0, none⟩)) (fun wq4 hx hbx => ?_)
                  replace E := hid (E.out.trans hx)
                  replace BR := hid (BR.out.up hx)
                  have BV := hid hbx
                  clear hx hbx
                  simp only [Act.put, pA, pB, pC]
                  obtain ⟨⟨z0, z1, z2, z3, z4, z5⟩, ⟨a0, a1, a2, a3, a4, a5⟩, hz⟩ := boxF6 BV.out
                  refine WT.st (w' := put6 wq4 wq3.heap.size (.int .i64 T2.op) (.bool T2.g) (.slice N nn nc) (str T2.name) (.int .i64 T2.sort) (.slice A n c)) ?_
                  refine WT.y 16 (.int .i64 e2) ?_
                  exact WT.done_ ⟨rfl, wq1.heap.size, wq3.heap.size, N, nn, nc, A, n, c, by simp only [Act.put, pA, pB, pC], HN.out, put6_boxA BV.out _ _ _ _ _ _, put6_ext E.out HGV.out⟩
                · have HGV := hid E.out.size
                  refine wpOp_newT 15 (cs := zero6) (t := 33) (v := .pointer (some ⟨wq2.heap.size, 0, none⟩)) (fun wq5 hx hbx => ?_)
                  replace E := hid (E.out.trans hx)
                  replace BR := hid (BR.out.up hx)
                  have BV := hid hbx
                  clear hx hbx
                  simp only [Act.put, pA, pB, pC]
                  refine WT.act_ ?_
                  refine wpOp_callT 70 ((term_givesS (l := [M.argS k]) HT2.out HTX2.out (show IsT _ (M.SY [102]) (tv false (4, [102]) none 0 0) from ⟨none, 0, rfl, Kids.nil _⟩) (sgs_one (s := M.argS k) BR.out (by rw [hargs]; exact HI1.out.up E.out)) hnm (HTB.out _ (E1.out.trans E.out)).1).mono ?_)
                  rintro e wq6 ⟨v, rfl, hT, hx⟩
                  obtain ⟨N, nn, nc, A, n, c, rfl, hn, -, -, -, -, -⟩ := hT.shape
                  refine ⟨_, rfl, hx, ?_⟩
                  have HN := hid hn
                  replace E := hid (E.out.trans hx)
                  replace BR := hid (BR.out.up hx)
                  replace BV := hid (BV.out.up hx)
                  clear hT hx hn
                  simp only [Act.put, pA, pB, pC]
                  refine WT.p 66 (.tuple #[kv T2.op T2.g N nn nc T2.name T2.sort A n c, .int .i64 e2]) ?_
                  simp only [Act.put, pA, pB, pC]
                  refine WT.p 71 (kv T2.op T2.g N nn nc T2.name T2.sort A n c) ?_
                  simp only [Act.put, pA, pB, pC]
                  refine WT.y 72 (.int .i64 e2) ?_
                  simp only [Act.put, pA, pB, pC]
                  obtain ⟨⟨z0, z1, z2, z3, z4, z5⟩, ⟨a0, a1, a2, a3, a4, a5⟩, hz⟩ := boxF6 BV.out
                  refine WT.st (w' := put6 wq6 wq2.heap.size (.int .i64 T2.op) (.bool T2.g) (.slice N nn nc) (str T2.name) (.int .i64 T2.sort) (.slice A n c)) ?_
                  refine WT.y 16 (.int .i64 e2) ?_
                  exact WT.done_ ⟨rfl, wq1.heap.size, wq2.heap.size, N, nn, nc, A, n, c, by simp only [Act.put, pA, pB, pC], HN.out, put6_boxA BV.out _ _ _ _ _ _, put6_ext E.out HGV.out⟩
              · have HGV := hid E.out.size
                refine wpOp_newT 15 (cs := zero6) (t := 33) (v := .pointer (some ⟨wq1.heap.size, 0, none⟩)) (fun wq7 hx hbx => ?_)
                replace E := hid (E.out.trans hx)
                have BV := hid hbx
                clear hx hbx
                simp only [Act.put, pA, pB, pC]
                refine WT.act_ ?_
                refine wpOp_newT 69 (cs := #[str [102], .slice IA k ic, .int .i64 1]) (t := 61) (v := .slice (some ⟨wq7.heap.size, 0, none⟩) 1 1) (fun wq8 hx hbx => ?_)
                replace E := hid (E.out.trans hx)
                replace BV := hid (BV.out.up hx)
                have BR := hid hbx
                clear hx hbx
                simp only [Act.put, pA, pB, pC]
                refine WT.act_ ?_
                refine wpOp_callT 70 ((term_givesS (l := [M.argS k]) HT2.out HTX2.out (show IsT _ (M.SY [102]) (tv false (4, [102]) none 0 0) from ⟨none, 0, rfl, Kids.nil _⟩) (sgs_one (s := M.argS k) BR.out (by rw [hargs]; exact HI1.out.up E.out)) hnm (HTB.out _ (E1.out.trans E.out)).1).mono ?_)
                rintro e wq9 ⟨v, rfl, hT, hx⟩
                obtain ⟨N, nn, nc, A, n, c, rfl, hn, -, -, -, -, -⟩ := hT.shape
                refine ⟨_, rfl, hx, ?_⟩
                have HN := hid hn
                replace E := hid (E.out.trans hx)
                replace BR := hid (BR.out.up hx)
                replace BV := hid (BV.out.up hx)
                clear hT hx hn
                simp only [Act.put, pA, pB, pC]
                refine WT.p 66 (.tuple #[kv T2.op T2.g N nn nc T2.name T2.sort A n c, .int .i64 e2]) ?_
                simp only [Act.put, pA, pB, pC]
                refine WT.p 71 (kv T2.op T2.g N nn nc T2.name T2.sort A n c) ?_
                simp only [Act.put, pA, pB, pC]
                refine WT.y 72 (.int .i64 e2) ?_
                simp only [Act.put, pA, pB, pC]
                obtain ⟨⟨z0, z1, z2, z3, z4, z5⟩, ⟨a0, a1, a2, a3, a4, a5⟩, hz⟩ := boxF6 BV.out
                refine WT.st (w' := put6 wq9 wq1.heap.size (.int .i64 T2.op) (.bool T2.g) (.slice N nn nc) (str T2.name) (.int .i64 T2.sort) (.slice A n c)) ?_
                refine WT.y 16 (.int .i64 e2) ?_
                exact WT.done_ ⟨rfl, wq7.heap.size, wq1.heap.size, N, nn, nc, A, n, c, by simp only [Act.put, pA, pB, pC], HN.out, put6_boxA BV.out _ _ _ _ _ _, put6_ext E.out HGV.out⟩
            · refine wpOp_newT 69 (cs := #[str [102], .slice IA k ic, .int .i64 1]) (t := 61) (v := .slice (some ⟨wd.heap.size, 0, none⟩) 1 1) (fun wq10 hx hbx => ?_)
              replace E := hid (E.out.trans hx)
              have BR := hid hbx
              clear hx hbx
              simp only [Act.put, pA, pB, pC]
              refine WT.two_ ?_ ?_
              · refine wpOp_callT 67 ((lsym_t [102] _).mono ?_)
                rintro e wq11 ⟨rfl, hx⟩
                refine ⟨_, rfl, hx, ?_⟩
                replace E := hid (E.out.trans hx)
                replace BR := hid (BR.out.up hx)
                clear hx
                simp only [Act.put, pA, pB, pC]
                refine WT.two_ ?_ ?_
                · refine wpOp_callT 70 ((term_givesS (l := [M.argS k]) HT2.out HTX2.out (show IsT _ (M.SY [102]) (tv false (4, [102]) none 0 0) from ⟨none, 0, rfl, Kids.nil _⟩) (sgs_one (s := M.argS k) BR.out (by rw [hargs]; exact HI1.out.up E.out)) hnm (HTB.out _ (E1.out.trans E.out)).1).mono ?_)
                  rintro e wq12 ⟨v, rfl, hT, hx⟩
                  obtain ⟨N, nn, nc, A, n, c, rfl, hn, -, -, -, -, -⟩ := hT.shape
                  refine ⟨_, rfl, hx, ?_⟩
                  have HN := hid hn
                  replace E := hid (E.out.trans hx)
                  replace BR := hid (BR.out.up hx)
                  clear hT hx hn
                  simp only [Act.put, pA, pB, pC]
                  refine WT.p 66 (.tuple #[kv T2.op T2.g N nn nc T2.name T2.sort A n c, .int .i64 e2]) ?_
                  simp only [Act.put, pA, pB, pC]
                  refine WT.p 71 (kv T2.op T2.g N nn nc T2.name T2.sort A n c) ?_
                  simp only [Act.put, pA, pB, pC]
                  refine WT.y 72 (.int .i64 e2) ?_
                  simp only [Act.put, pA, pB, pC]
                  refine WT.act_ ?_
                  have HGV := hid E.out.size
                  refine wpOp_newT 15 (cs := zero6) (t := 33) (v := .pointer (some ⟨wq12.heap.size, 0, none⟩)) (fun wq13 hx hbx => ?_)
                  replace E := hid (E.out.trans hx)
                  replace BR := hid (BR.out.up hx)
                  have BV := hid hbx
                  clear hx hbx
                  simp only [Act.put, pA, pB, pC]
                  obtain ⟨⟨z0, z1, z2, z3, z4, z5⟩, ⟨a0, a1, a2, a3, a4, a5⟩, hz⟩ := boxF6 BV.out
                  refine WT.st (w' := put6 wq13 wq12.heap.size (.int .i64 T2.op) (.bool T2.g) (.slice N nn nc) (str T2.name) (.int .i64 T2.sort) (.slice A n c)) ?_
                  refine WT.y 16 (.int .i64 e2) ?_
                  exact WT.done_ ⟨rfl, wd.heap.size, wq12.heap.size, N, nn, nc, A, n, c, by simp only [Act.put, pA, pB, pC], HN.out, put6_boxA BV.out _ _ _ _ _ _, put6_ext E.out HGV.out⟩
                · have HGV := hid E.out.size
                  refine wpOp_newT 15 (cs := zero6) (t := 33) (v := .pointer (some ⟨wq11.heap.size, 0, none⟩)) (fun wq14 hx hbx => ?_)
                  replace E := hid (E.out.trans hx)
                  replace BR := hid (BR.out.up hx)
                  have BV := hid hbx
                  clear hx hbx
                  simp only [Act.put, pA, pB, pC]
                  refine WT.act_ ?_
                  refine wpOp_callT 70 ((term_givesS (l := [M.argS k]) HT2.out HTX2.out (show IsT _ (M.SY [102]) (tv false (4, [102]) none 0 0) from ⟨none, 0, rfl, Kids.nil _⟩) (sgs_one (s := M.argS k) BR.out (by rw [hargs]; exact HI1.out.up E.out)) hnm (HTB.out _ (E1.out.trans E.out)).1).mono ?_)
                  rintro e wq15 ⟨v, rfl, hT, hx⟩
                  obtain ⟨N, nn, nc, A, n, c, rfl, hn, -, -, -, -, -⟩ := hT.shape
                  refine ⟨_, rfl, hx, ?_⟩
                  have HN := hid hn
                  replace E := hid (E.out.trans hx)
                  replace BR := hid (BR.out.up hx)
                  replace BV := hid (BV.out.up hx)
                  clear hT hx hn
                  simp only [Act.put, pA, pB, pC]
                  refine WT.p 66 (.tuple #[kv T2.op T2.g N nn nc T2.name T2.sort A n c, .int .i64 e2]) ?_
                  simp only [Act.put, pA, pB, pC]
                  refine WT.p 71 (kv T2.op T2.g N nn nc T2.name T2.sort A n c) ?_
                  simp only [Act.put, pA, pB, pC]
                  refine WT.y 72 (.int .i64 e2) ?_
                  simp only [Act.put, pA, pB, pC]
                  obtain ⟨⟨z0, z1, z2, z3, z4, z5⟩, ⟨a0, a1, a2, a3, a4, a5⟩, hz⟩ := boxF6 BV.out
                  refine WT.st (w' := put6 wq15 wq11.heap.size (.int .i64 T2.op) (.bool T2.g) (.slice N nn nc) (str T2.name) (.int .i64 T2.sort) (.slice A n c)) ?_
                  refine WT.y 16 (.int .i64 e2) ?_
                  exact WT.done_ ⟨rfl, wd.heap.size, wq11.heap.size, N, nn, nc, A, n, c, by simp only [Act.put, pA, pB, pC], HN.out, put6_boxA BV.out _ _ _ _ _ _, put6_ext E.out HGV.out⟩
              · have HGV := hid E.out.size
                refine wpOp_newT 15 (cs := zero6) (t := 33) (v := .pointer (some ⟨wq10.heap.size, 0, none⟩)) (fun wq16 hx hbx => ?_)
                replace E := hid (E.out.trans hx)
                replace BR := hid (BR.out.up hx)
                have BV := hid hbx
                clear hx hbx
                simp only [Act.put, pA, pB, pC]
                refine WT.act_ ?_
                refine wpOp_callT 67 ((lsym_t [102] _).mono ?_)
                rintro e wq17 ⟨rfl, hx⟩
                refine ⟨_, rfl, hx, ?_⟩
                replace E := hid (E.out.trans hx)
                replace BR := hid (BR.out.up hx)
                replace BV := hid (BV.out.up hx)
                clear hx
                simp only [Act.put, pA, pB, pC]
                refine WT.act_ ?_
                refine wpOp_callT 70 ((term_givesS (l := [M.argS k]) HT2.out HTX2.out (show IsT _ (M.SY [102]) (tv false (4, [102]) none 0 0) from ⟨none, 0, rfl, Kids.nil _⟩) (sgs_one (s := M.argS k) BR.out (by rw [hargs]; exact HI1.out.up E.out)) hnm (HTB.out _ (E1.out.trans E.out)).1).mono ?_)
                rintro e wq18 ⟨v, rfl, hT, hx⟩
                obtain ⟨N, nn, nc, A, n, c, rfl, hn, -, -, -, -, -⟩ := hT.shape
                refine ⟨_, rfl, hx, ?_⟩
                have HN := hid hn
                replace E := hid (E.out.trans hx)
                replace BR := hid (BR.out.up hx)
                replace BV := hid (BV.out.up hx)
                clear hT hx hn
                simp only [Act.put, pA, pB, pC]
                refine WT.p 66 (.tuple #[kv T2.op T2.g N nn nc T2.name T2.sort A n c, .int .i64 e2]) ?_
                simp only [Act.put, pA, pB, pC]
                refine WT.p 71 (kv T2.op T2.g N nn nc T2.name T2.sort A n c) ?_
                simp only [Act.put, pA, pB, pC]
                refine WT.y 72 (.int .i64 e2) ?_
                simp only [Act.put, pA, pB, pC]
                obtain ⟨⟨z0, z1, z2, z3, z4, z5⟩, ⟨a0, a1, a2, a3, a4, a5⟩, hz⟩ := boxF6 BV.out
                refine WT.st (w' := put6 wq18 wq10.heap.size (.int .i64 T2.op) (.bool T2.g) (.slice N nn nc) (str T2.name) (.int .i64 T2.sort) (.slice A n c)) ?_
                refine WT.y 16 (.int .i64 e2) ?_
                exact WT.done_ ⟨rfl, wd.heap.size, wq10.heap.size, N, nn, nc, A, n, c, by simp only [Act.put, pA, pB, pC], HN.out, put6_boxA BV.out _ _ _ _ _ _, put6_ext E.out HGV.out⟩
            · have HGV := hid E.out.size
              refine wpOp_newT 15 (cs := zero6) (t := 33) (v := .pointer (some ⟨wd.heap.size, 0, none⟩)) (fun wq19 hx hbx => ?_)
              replace E := hid (E.out.trans hx)
              have BV := hid hbx
              clear hx hbx
              simp only [Act.put, pA, pB, pC]
              refine WT.two_ ?_ ?_
              · refine wpOp_callT 67 ((lsym_t [102] _).mono ?_)
                rintro e wq20 ⟨rfl, hx⟩
                refine ⟨_, rfl, hx, ?_⟩
                replace E := hid (E.out.trans hx)
                replace BV := hid (BV.out.up hx)
                clear hx
                simp only [Act.put, pA, pB, pC]
                refine WT.act_ ?_
                refine wpOp_newT 69 (cs := #[str [102], .slice IA k ic, .int .i64 1]) (t := 61) (v := .slice (some ⟨wq20.heap.size, 0, none⟩) 1 1) (fun wq21 hx hbx => ?_)
                replace E := hid (E.out.trans hx)
                replace BV := hid (BV.out.up hx)
                have BR := hid hbx
                clear hx hbx
                simp only [Act.put, pA, pB, pC]
                refine WT.act_ ?_
                refine wpOp_callT 70 ((term_givesS (l := [M.argS k]) HT2.out HTX2.out (show IsT _ (M.SY [102]) (tv false (4, [102]) none 0 0) from ⟨none, 0, rfl, Kids.nil _⟩) (sgs_one (s := M.argS k) BR.out (by rw [hargs]; exact HI1.out.up E.out)) hnm (HTB.out _ (E1.out.trans E.out)).1).mono ?_)
                rintro e wq22 ⟨v, rfl, hT, hx⟩
                obtain ⟨N, nn, nc, A, n, c, rfl, hn, -, -, -, -, -⟩ := hT.shape
                refine ⟨_, rfl, hx, ?_⟩
                have HN := hid hn
                replace E := hid (E.out.trans hx)
                replace BR := hid (BR.out.up hx)
                replace BV := hid (BV.out.up hx)
                clear hT hx hn
                simp only [Act.put, pA, pB, pC]
                refine WT.p 66 (.tuple #[kv T2.op T2.g N nn nc T2.name T2.sort A n c, .int .i64 e2]) ?_
                simp only [Act.put, pA, pB, pC]
                refine WT.p 71 (kv T2.op T2.g N nn nc T2.name T2.sort A n c) ?_
                simp only [Act.put, pA, pB, pC]
                refine WT.y 72 (.int .i64 e2) ?_
                simp only [Act.put, pA, pB, pC]
                obtain ⟨⟨z0, z1, z2, z3, z4, z5⟩, ⟨a0, a1, a2, a3, a4, a5⟩, hz⟩ := boxF6 BV.out
                refine WT.st (w' := put6 wq22 wd.heap.size (.int .i64 T2.op) (.bool T2.g) (.slice N nn nc) (str T2.name) (.int .i64 T2.sort) (.slice A n c)) ?_
                refine WT.y 16 (.int .i64 e2) ?_
                exact WT.done_ ⟨rfl, wq20.heap.size, wd.heap.size, N, nn, nc, A, n, c, by simp only [Act.put, pA, pB, pC], HN.out, put6_boxA BV.out _ _ _ _ _ _, put6_ext E.out HGV.out⟩
              · refine wpOp_newT 69 (cs := #[str [102], .slice IA k ic, .int .i64 1]) (t := 61) (v := .slice (some ⟨wq19.heap.size, 0, none⟩) 1 1) (fun wq23 hx hbx => ?_)
                replace E := hid (E.out.trans hx)
                replace BV := hid (BV.out.up hx)
                have BR := hid hbx
                clear hx hbx
                simp only [Act.put, pA, pB, pC]
                refine WT.act_ ?_
                refine wpOp_callT 67 ((lsym_t [102] _).mono ?_)
                rintro e wq24 ⟨rfl, hx⟩
                refine ⟨_, rfl, hx, ?_⟩
                replace E := hid (E.out.trans hx)
                replace BR := hid (BR.out.up hx)
                replace BV := hid (BV.out.up hx)
                clear hx
                simp only [Act.put, pA, pB, pC]
                refine WT.act_ ?_
                refine wpOp_callT 70 ((term_givesS (l := [M.argS k]) HT2.out HTX2.out (show IsT _ (M.SY [102]) (tv false (4, [102]) none 0 0) from ⟨none, 0, rfl, Kids.nil _⟩) (sgs_one (s := M.argS k) BR.out (by rw [hargs]; exact HI1.out.up E.out)) hnm (HTB.out _ (E1.out.trans E.out)).1).mono ?_)
                rintro e wq25 ⟨v, rfl, hT, hx⟩
                obtain ⟨N, nn, nc, A, n, c, rfl, hn, -, -, -, -, -⟩ := hT.shape
                refine ⟨_, rfl, hx, ?_⟩
                have HN := hid hn
                replace E := hid (E.out.trans hx)
                replace BR := hid (BR.out.up hx)
                replace BV := hid (BV.out.up hx)
                clear hT hx hn
                simp only [Act.put, pA, pB, pC]
                refine WT.p 66 (.tuple #[kv T2.op T2.g N nn nc T2.name T2.sort A n c, .int .i64 e2]) ?_
                simp only [Act.put, pA, pB, pC]
                refine WT.p 71 (kv T2.op T2.g N nn nc T2.name T2.sort A n c) ?_
                simp only [Act.put, pA, pB, pC]
                refine WT.y 72 (.int .i64 e2) ?_
                simp only [Act.put, pA, pB, pC]
                obtain ⟨⟨z0, z1, z2, z3, z4, z5⟩, ⟨a0, a1, a2, a3, a4, a5⟩, hz⟩ := boxF6 BV.out
                refine WT.st (w' := put6 wq25 wd.heap.size (.int .i64 T2.op) (.bool T2.g) (.slice N nn nc) (str T2.name) (.int .i64 T2.sort) (.slice A n c)) ?_
                refine WT.y 16 (.int .i64 e2) ?_
                exact WT.done_ ⟨rfl, wq19.heap.size, wd.heap.size, N, nn, nc, A, n, c, by simp only [Act.put, pA, pB, pC], HN.out, put6_boxA BV.out _ _ _ _ _ _, put6_ext E.out HGV.out⟩
          rintro a' w17 ⟨gr2, gv2, N2, nn2, nc2, A2, n2, c2, rfl, hn2, hbv2, he2⟩
          simp only [Act.put, pA, pB, pC]
          replace HB16 := hid (HB16.out.up he2)
          have E17 := hid (E1.out.trans he2)
          obtain rfl : n = T.kids.length := HN16.out
          clear hn2 hbv2 he2 HB1 HI1 E1 hargs hnm HARG HNM HT2 HTX2
          by_cases hjk : j = k
          · subst hjk
            have hqa : ((j : Int) != (j : Int)) = false := by simp
            by_cases hbj : bo = true ∧ 0 < j
            · obtain ⟨rfl, hj0⟩ := hbj
              obtain rfl : et = 17 := by rw [HEE.out]; unfold M.argE; rw [if_neg (by simp), if_pos ⟨rfl, hj0⟩]
              obtain rfl : e2 = 18 := by rw [HEE2.out, if_neg (by omega)]
              have hj0' : 0 < (j : Int) := by omega
              have hqb : ((j : Int) == 0) = false := by simp; omega
              clear hj0
              go_wp2
              go_ret
              exact ⟨rfl, E17.out⟩
            · have h0e : M.argE j j bo = 0 := by unfold M.argE; rw [if_neg (by simp), if_neg hbj]
              obtain rfl : et = 0 := by rw [HEE.out]; exact h0e
              obtain ⟨ho1, ho2, ho3⟩ := HTMM.out h0e
              have HBX := HB16.out
              rw [ho1, ho2, ho3] at HBX
              obtain ⟨t0, t4, t5⟩ := box045 HBX
              have hbb : bo = false ∨ j = 0 := by
                cases bo
                · exact .inl rfl
                · exact .inr (Nat.eq_zero_of_not_pos (fun h => hbj ⟨rfl, h⟩))
              clear HBX hbj h0e HB16 ho1 ho2 ho3 HTMM HEE
              rcases Nat.eq_zero_or_pos j with hz | hz
              · obtain rfl : e2 = 0 := by rw [HEE2.out, if_pos hz]
                subst hz
                clear hbb HEE2
                cases bo
                · go_wp2
                  go_ret
                  exact ⟨rfl, E17.out⟩
                · go_wp2
                  go_ret
                  exact ⟨rfl, E17.out⟩
              · obtain rfl : bo = false := hbb.resolve_right (by omega)
                obtain rfl : e2 = 18 := by rw [HEE2.out, if_neg (by omega)]
                have hqb : ((j : Int) == 0) = false := by simp; omega
                clear hbb HEE2 hz
                go_wp2
                go_ret
                exact ⟨rfl, E17.out⟩
          · obtain rfl : et = 18 := by rw [HEE.out]; unfold M.argE; rw [if_pos hjk]
            have hqa : ((j : Int) != (k : Int)) = true := by simp; omega
            clear HEE HTMM HB16 hjk
            rcases Nat.eq_zero_or_pos k with hz | hz
            · obtain rfl : e2 = 0 := by rw [HEE2.out, if_pos hz]
              have hqb : ((k : Int) == 0) = true := by simp; omega
              clear hz HEE2
              go_wp2
              go_ret
              exact ⟨rfl, E17.out⟩
            · obtain rfl : e2 = 18 := by rw [HEE2.out, if_neg (by omega)]
              have hqb : ((k : Int) == 0) = false := by simp; omega
              clear hz HEE2
              go_wp2
              go_ret
              exact ⟨rfl, E17.out⟩
end Go.Proofs.YtgkofipifjfjhaaGreatDoor.Q
