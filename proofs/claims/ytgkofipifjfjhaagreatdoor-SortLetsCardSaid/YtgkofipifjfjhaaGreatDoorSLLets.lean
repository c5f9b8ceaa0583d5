/-
  Layer 11's laws: SortLets.
-/
import Derived.Test.YtgkofipifjfjhaaGreatDoorSLRow
import Derived.Test.YtgkofipifjfjhaaGreatDoorSLPut
import Derived.Test.YtgkofipifjfjhaaGreatDoorSArgsM
import Derived.Test.YtgkofipifjfjhaaGreatDoorJKF
namespace Go.Proofs.YtgkofipifjfjhaaGreatDoor.Q
set_option linter.unusedSimpArgs false
set_option linter.unusedVariables false
open Go.RowKit

/-- What the law asks of the reference's calls. -/
structure LetsC : Prop where
 count : ∀ (t : M.T) {v : Value} {w : World}, IsT w t v → Calls Tryz.prog 16 #[v] w (GivesI w ((min (M.cnt t) 401 : Nat) : Int))
 is_ : ∀ (t : M.T) {v : Value} {w : World}, IsT w t v → M.txtN t = true → Calls Tryz.prog 26 #[v] w (GivesB w (M.isU t))
 same : ∀ (t : M.Tm) {v v' : Value} {w : World}, IsTm w t v → IsTm w t v' → Calls Tryz.prog 20 #[v, v'] w (GivesB w true)
theorem byteStr (x : Nat) (hx : x < 256) (g : Nat) (w : World) (T : TypeId) (hb : Box w g #[.int .u8 (x : Int)] T) :
 (convert 52 9 (.slice (some ⟨g, 0, none⟩) 1 1)).run Tryz.prog w = .ok (str [UInt8.ofNat x]) w := by
 have h := run_convert_bytes_back (P := Tryz.prog) w 52 9 5 ⟨g, 0, none⟩ 1 [UInt8.ofNat x] Tryz.underlying52 Tryz.underlying5 Tryz.underlying9 (fun j hj => by
  obtain rfl : j = 0 := by simpa using hj
  have := hb.cell (o := 0) (v := .int .u8 (x : Int)) rfl
  have e : (UInt8.ofNat x).toNat = x := by simp [Nat.mod_eq_of_lt hx]
  simpa [Addr.add, e] using this)
 exact h
theorem put6_boxL {w : World} {k : Nat} {y0 y1 y2 y3 y4 y5 : Value} {T : TypeId} (h : Box w k #[y0, y1, y2, y3, y4, y5] T) (x0 x1 x2 x3 x4 x5 : Value) : Box (put6 w k x0 x1 x2 x3 x4 x5) k #[x0, x1, x2, x3, x4, x5] T := (((((h.setAt 0 x0).setAt 1 x1).setAt 2 x2).setAt 3 x3).setAt 4 x4).setAt 5 x5
theorem gp_all (w : World) : Sub w (gp (fun b => b < w.heap.size) w) := ⟨by rw [gp_size]; exact Nat.le_refl _, fun a v h => gp_cell.2 ⟨World.block_lt_of_cell? w _ h, h⟩⟩
theorem box6z {w : World} {k : Nat} {x0 x1 x2 x3 x4 x5 : Value} {T : TypeId} (h : Box w k #[x0, x1, x2, x3, x4, x5] T) : (w.cell? ⟨k, 0, none⟩ = some x0 ∧ w.cell? ⟨k, 1, none⟩ = some x1 ∧ w.cell? ⟨k, 2, none⟩ = some x2 ∧ w.cell? ⟨k, 3, none⟩ = some x3 ∧ w.cell? ⟨k, 4, none⟩ = some x4 ∧ w.cell? ⟨k, 5, none⟩ = some x5) ∧ (w.frozen? ⟨k, 0, none⟩ = false) ∧ k < w.heap.size := ⟨⟨h.k 0, h.k 1, h.k 2, h.k 3, h.k 4, h.k 5⟩, h.free 0, h.lt⟩
theorem isTm_keep {w : World} {k : Nat} {T : TypeId} {x0 x1 x2 x3 x4 x5 : Value} {X : M.Tm} {e : Int} {v : Value} (hok : M.okR (X, e)) (hb : Box w k zero6 T) (h : IsTm w X v) : IsTm (put6 w k x0 x1 x2 x3 x4 x5) X v := by
 by_cases he : e = 0
 ·exact isTm_put hb (M.kis_of (hok.1 he).1) h
 ·obtain rfl : X = M.K0 := hok.2 he
  obtain ⟨N, nn, nc, A, c, e, hn, A', n', c', e', h2, h3, h4, h5⟩ := h
  exact ⟨N, nn, nc, A, c, e, num_put6 hn hb rfl, A', n', c', e', h2, h3, h4, fun h => absurd rfl h⟩
theorem M.nameFacts : ∀ r : Fin 3, M.leafOk (4, [118, UInt8.ofNat (97 + r.val)]) = true ∧ M.resv [118, UInt8.ofNat (97 + r.val)] = false := by decide +kernel
set_option maxHeartbeats 40000000 in
set_option maxRecDepth 100000 in
theorem lets_t (C : LetsC) {t body : M.T} {l : List M.Sg} {nI : Int} {r : Nat} {vt vb : Value} {SA : Option Addr} {sn sc : Nat} {w : World} (ht : IsT w t vt) (hbo : IsT w body vb) (hl : Sgs w l (.slice SA sn sc)) (h0 : 0 ≤ nI) (h1 : nI ≤ 255) (hr : nI % 3 = (r : Int)) (hr3 : (r : Int) < 3) (hT : TabT w) : Calls Tryz.prog 4 #[vt, vb, .slice SA sn sc, .int .u8 nI] w (GivesB w true) := by
 have HT := hid ht
 have HO := hid hbo
 have HL := hid hl
 obtain ⟨A, c, rfl, hk⟩ := ht
 obtain ⟨B, d, rfl, hkb⟩ := hbo
 obtain ⟨n, hn⟩ : ∃ n, t.kids.length = n := ⟨_, rfl⟩
 obtain ⟨m, hm⟩ : ∃ n, body.kids.length = n := ⟨_, rfl⟩
 obtain ⟨tl, htl⟩ : ∃ n, t.list = n := ⟨_, rfl⟩
 obtain ⟨tk, htk⟩ : ∃ n, t.tok.1 = n := ⟨_, rfl⟩
 obtain ⟨tx, htx⟩ : ∃ n, t.tok.2 = n := ⟨_, rfl⟩
 obtain ⟨bl, hbl⟩ : ∃ n, body.list = n := ⟨_, rfl⟩
 obtain ⟨bk, hbk⟩ : ∃ n, body.tok.1 = n := ⟨_, rfl⟩
 obtain ⟨bx, hbx⟩ : ∃ n, body.tok.2 = n := ⟨_, rfl⟩
 have HKT := hid (show Kids w t.kids (.slice A n c) from hn ▸ hk)
 have HKB := hid (show Kids w body.kids (.slice B m d) from hm ▸ hkb)
 have HTE := hid (And.intro htl (And.intro htk htx))
 have HBE := hid (And.intro hbl (And.intro hbk hbx))
 rw [show tv t.list t.tok A t.kids.length c = tv tl (tk, tx) A n c by rw [htl, hn, show t.tok = (tk, tx) from Prod.ext htk htx]] at HT ⊢
 rw [show tv body.list body.tok B body.kids.length d = tv bl (bk, bx) B m d by rw [hbl, hm, show body.tok = (bk, bx) from Prod.ext hbk hbx]] at HO ⊢
 have HKN := hid (fun (w' : World) (e : Ext w w') => known_t (hT.up e))
 have HTB := hid (fun w' (e : Ext w w') => hT.up e)
 have HSL := hid (And.intro hl.le.1 hl.le.2)
 clear hk hkb hn hm htl htk htx hbl hbk hbx hl hT
 have HB0 := hid (show Box ((w.alloc (.cells #[.bool tl, .int .i64 tk, str tx, .slice A n c] 26)).alloc (.cells #[.bool bl, .int .i64 bk, str bx, .slice B m d] 26)) w.heap.size #[.bool tl, .int .i64 tk, str tx, .slice A n c] 26 from (Box.new w _ _).alloc _)
 have HB1 := hid (show Box ((w.alloc (.cells #[.bool tl, .int .i64 tk, str tx, .slice A n c] 26)).alloc (.cells #[.bool bl, .int .i64 bk, str bx, .slice B m d] 26)) (w.heap.size + 1) #[.bool bl, .int .i64 bk, str bx, .slice B m d] 26 from Box.at_ (w := w.alloc _) _ _ (by simp))
 have HE := hid (show Ext w ((w.alloc (.cells #[.bool tl, .int .i64 tk, str tx, .slice A n c] 26)).alloc (.cells #[.bool bl, .int .i64 bk, str bx, .slice B m d] 26)) from (Ext.alloc w _).alloc' _)
 go_enter Tryz.func4, Tryz.ntmps4
 go_upto_region 1 with (fail)
 refine swp_at (fun W => Box W w.heap.size #[.bool tl, .int .i64 tk, str tx, .slice A n c] 26 ∧ Box W (w.heap.size + 1) #[.bool bl, .int .i64 bk, str bx, .slice B m d] 26 ∧ Ext w W) ⟨HB0.out, HB1.out, HE.out⟩ ?_
 clear HB0 HB1 HE
 intro W ⟨hb0, hb1, he⟩
 obtain ⟨ga, hga⟩ : ∃ g, w.heap.size = g := ⟨_, rfl⟩
 have HB0 := hid hb0
 have HB1 := hid hb1
 have HE := hid he
 rw [hga] at HB0 HB1 ⊢
 clear hb0 hb1 he hga
 replace HT := hid (HT.out.up HE.out)
 replace HO := hid (HO.out.up HE.out)
 replace HL := hid (HL.out.up HE.out)
 replace HKT := hid (HKT.out.up HE.out)
 replace HKB := hid (HKB.out.up HE.out)
 go_wp2_with fail
 refine (HKN.out _ HE.out).mono ?_
 rintro e w1 ⟨rfl, hx⟩
 have E := hid hx
 clear hx HKN
 go_wp2_with fail
 obtain ⟨f1, hf1⟩ : ∃ b, M.fewK t 6 = b := ⟨_, rfl⟩
 have HF1 := hid (show ∀ w', Ext W w' → Calls Tryz.prog 13 #[tv tl (tk, tx) A n c, .int .i64 6] w' (GivesB w' f1) from fun w' e => hf1 ▸ fewTree_s t (m := 6) (HT.out.up e) (by omega))
 obtain ⟨f2, hf2⟩ : ∃ b, M.fewK body 6 = b := ⟨_, rfl⟩
 have HF2 := hid (show ∀ w', Ext W w' → Calls Tryz.prog 13 #[tv bl (bk, bx) B m d, .int .i64 6] w' (GivesB w' f2) from fun w' e => hf2 ▸ fewTree_s body (m := 6) (HO.out.up e) (by omega))
 obtain ⟨f3, hf3⟩ : ∃ b, M.fewSs l = b := ⟨_, rfl⟩
 have HF3 := hid (show ∀ w', Ext W w' → Calls Tryz.prog 14 #[.slice SA sn sc] w' (GivesB w' f3) from fun w' e => hf3 ▸ fewSigs_s (HL.out.up e))
 obtain ⟨ct, hct⟩ : ∃ c : Nat, min (M.cnt t) 401 = c := ⟨_, rfl⟩
 obtain ⟨cb, hcb⟩ : ∃ c : Nat, min (M.cnt body) 401 = c := ⟨_, rfl⟩
 obtain ⟨cs, hcs⟩ : ∃ c : Nat, ct + cb = c := ⟨_, rfl⟩
 have HC1 := hid (show ∀ w', Ext W w' → Calls Tryz.prog 16 #[tv tl (tk, tx) A n c] w' (GivesI w' (ct : Int)) from fun w' e => hct ▸ C.count t (HT.out.up e))
 have HC2 := hid (show ∀ w', Ext W w' → Calls Tryz.prog 16 #[tv bl (bk, bx) B m d] w' (GivesI w' (cb : Int)) from fun w' e => hcb ▸ C.count body (HO.out.up e))
 have HSUM := hid (show (ct : Int) + (cb : Int) = (cs : Int) ∧ cs ≤ 802 by omega)
 have HCT := hid hct
 have HCB := hid hcb
 have HCS := hid hcs
 clear hct hcb hcs
 cases f1
 ·clear hf1 hf2 hf3
  refine wp_region_D [(0, 0), (1, 1), (2, 0), (3, 0), (4, 0), (5, 1), (6, 0), (7, 0), (8, 0), (9, 0), (10, 1), (11, 0), (12, 0), (13, 0), (14, 0), (16, 0), (15, 1), (17, 1), (18, 0), (19, 0), (20, 0), (21, 0), (22, 0), (23, 1), (24, 0), (25, 0), (26, 0), (27, 0), (28, 1), (29, 0), (30, 0)] fun wd hb => ?_
  replace E := hid (E.out.trans hb)
  clear hb
  refine WE.q 18 (tv tl (tk, tx) A n c) rfl (fun w' hk => by obtain ⟨⟨x0, x1, x2, x3⟩, -, -⟩ := box4z ((HB0.out.up E.out).up hk); go_simp) ?_
  simp only [Act.put, pA, pB, pC]
  refine WE.c 19 ((HF1.out _ E.out).mono ?_)
  rintro e wb ⟨rfl, hb⟩
  refine ⟨_, rfl, hb, ?_⟩
  replace E := hid (E.out.trans hb)
  clear hb
  simp only [Act.put, pA, pB, pC]
  refine WE.p 20 (.bool true) ?_
  simp only [Act.put, pA, pB, pC]
  refine WE.p 21 (.bool true) ?_
  simp only [Act.put, pA, pB, pC]
  refine WE.s 22 ?_
  simp only [Act.put, pA, pB, pC]
  refine WE.t 23 ?_
  simp only [Act.put, pA, pB, pC]
  refine WE.s 24 ?_
  simp only [Act.put, pA, pB, pC]
  refine WE.p 25 (.bool true) ?_
  simp only [Act.put, pA, pB, pC]
  refine WE.p 26 (.bool true) ?_
  simp only [Act.put, pA, pB, pC]
  refine WE.s 27 ?_
  simp only [Act.put, pA, pB, pC]
  refine WE.t 28 ?_
  simp only [Act.put, pA, pB, pC]
  refine WE.s 29 ?_
  simp only [Act.put, pA, pB, pC]
  refine WE.p 30 (.bool true) ?_
  simp only [Act.put, pA, pB, pC]
  refine WE.p 31 (.bool true) ?_
  simp only [Act.put, pA, pB, pC]
  refine WE.s 32 ?_
  simp only [Act.put, pA, pB, pC]
  refine WE.s 34 ?_
  simp only [Act.put, pA, pB, pC]
  refine WE.t 33 ?_
  simp only [Act.put, pA, pB, pC]
  refine WE.t 35 ?_
  simp only [Act.put, pA, pB, pC]
  refine WE.s 36 ?_
  simp only [Act.put, pA, pB, pC]
  refine WE.s 37 ?_
  simp only [Act.put, pA, pB, pC]
  refine WE.p 38 (.bool true) ?_
  simp only [Act.put, pA, pB, pC]
  refine WE.p 39 (.bool true) ?_
  simp only [Act.put, pA, pB, pC]
  refine WE.s 40 ?_
  simp only [Act.put, pA, pB, pC]
  refine WE.t 41 ?_
  simp only [Act.put, pA, pB, pC]
  refine WE.s 42 ?_
  simp only [Act.put, pA, pB, pC]
  refine WE.p 43 (.bool true) ?_
  simp only [Act.put, pA, pB, pC]
  refine WE.p 44 (.bool true) ?_
  simp only [Act.put, pA, pB, pC]
  refine WE.s 45 ?_
  simp only [Act.put, pA, pB, pC]
  refine WE.t 46 ?_
  simp only [Act.put, pA, pB, pC]
  refine WE.s 47 ?_
  simp only [Act.put, pA, pB, pC]
  refine WE.p 48 (.bool true) ?_
  simp only [Act.put, pA, pB, pC]
  refine WE.done ?_
  go_wp2
  go_ret
  exact ⟨rfl, HE.out.trans E.out⟩
 cases f2
 ·clear hf1 hf2 hf3
  refine wp_region_D [(0, 0), (1, 1), (2, 0), (3, 0), (4, 0), (5, 1), (6, 0), (7, 0), (8, 0), (9, 0), (10, 1), (11, 0), (12, 0), (13, 0), (14, 0), (16, 0), (15, 1), (17, 1), (18, 0), (19, 0), (20, 0), (21, 0), (22, 0), (23, 1), (24, 0), (25, 0), (26, 0), (27, 0), (28, 1), (29, 0), (30, 0)] fun wd hb => ?_
  replace E := hid (E.out.trans hb)
  clear hb
  refine WE.q 18 (tv tl (tk, tx) A n c) rfl (fun w' hk => by obtain ⟨⟨x0, x1, x2, x3⟩, -, -⟩ := box4z ((HB0.out.up E.out).up hk); go_simp) ?_
  simp only [Act.put, pA, pB, pC]
  refine WE.c 19 ((HF1.out _ E.out).mono ?_)
  rintro e wb ⟨rfl, hb⟩
  refine ⟨_, rfl, hb, ?_⟩
  replace E := hid (E.out.trans hb)
  clear hb
  simp only [Act.put, pA, pB, pC]
  refine WE.p 20 (.bool false) ?_
  simp only [Act.put, pA, pB, pC]
  refine WE.p 21 (.bool false) ?_
  simp only [Act.put, pA, pB, pC]
  refine WE.q 22 (tv bl (bk, bx) B m d) rfl (fun w' hk => by obtain ⟨⟨x0, x1, x2, x3⟩, -, -⟩ := box4z ((HB1.out.up E.out).up hk); go_simp) ?_
  simp only [Act.put, pA, pB, pC]
  refine WE.c 23 ((HF2.out _ E.out).mono ?_)
  rintro e wb ⟨rfl, hb⟩
  refine ⟨_, rfl, hb, ?_⟩
  replace E := hid (E.out.trans hb)
  clear hb
  simp only [Act.put, pA, pB, pC]
  refine WE.p 24 (.bool true) ?_
  simp only [Act.put, pA, pB, pC]
  refine WE.p 25 (.bool true) ?_
  simp only [Act.put, pA, pB, pC]
  refine WE.p 26 (.bool true) ?_
  simp only [Act.put, pA, pB, pC]
  refine WE.s 27 ?_
  simp only [Act.put, pA, pB, pC]
  refine WE.t 28 ?_
  simp only [Act.put, pA, pB, pC]
  refine WE.s 29 ?_
  simp only [Act.put, pA, pB, pC]
  refine WE.p 30 (.bool true) ?_
  simp only [Act.put, pA, pB, pC]
  refine WE.p 31 (.bool true) ?_
  simp only [Act.put, pA, pB, pC]
  refine WE.s 32 ?_
  simp only [Act.put, pA, pB, pC]
  refine WE.s 34 ?_
  simp only [Act.put, pA, pB, pC]
  refine WE.t 33 ?_
  simp only [Act.put, pA, pB, pC]
  refine WE.t 35 ?_
  simp only [Act.put, pA, pB, pC]
  refine WE.s 36 ?_
  simp only [Act.put, pA, pB, pC]
  refine WE.s 37 ?_
  simp only [Act.put, pA, pB, pC]
  refine WE.p 38 (.bool true) ?_
  simp only [Act.put, pA, pB, pC]
  refine WE.p 39 (.bool true) ?_
  simp only [Act.put, pA, pB, pC]
  refine WE.s 40 ?_
  simp only [Act.put, pA, pB, pC]
  refine WE.t 41 ?_
  simp only [Act.put, pA, pB, pC]
  refine WE.s 42 ?_
  simp only [Act.put, pA, pB, pC]
  refine WE.p 43 (.bool true) ?_
  simp only [Act.put, pA, pB, pC]
  refine WE.p 44 (.bool true) ?_
  simp only [Act.put, pA, pB, pC]
  refine WE.s 45 ?_
  simp only [Act.put, pA, pB, pC]
  refine WE.t 46 ?_
  simp only [Act.put, pA, pB, pC]
  refine WE.s 47 ?_
  simp only [Act.put, pA, pB, pC]
  refine WE.p 48 (.bool true) ?_
  simp only [Act.put, pA, pB, pC]
  refine WE.done ?_
  go_wp2
  go_ret
  exact ⟨rfl, HE.out.trans E.out⟩
 cases f3
 ·clear hf1 hf2 hf3
  refine wp_region_D [(0, 0), (1, 1), (2, 0), (3, 0), (4, 0), (5, 1), (6, 0), (7, 0), (8, 0), (9, 0), (10, 1), (11, 0), (12, 0), (13, 0), (14, 0), (16, 0), (15, 1), (17, 1), (18, 0), (19, 0), (20, 0), (21, 0), (22, 0), (23, 1), (24, 0), (25, 0), (26, 0), (27, 0), (28, 1), (29, 0), (30, 0)] fun wd hb => ?_
  replace E := hid (E.out.trans hb)
  clear hb
  refine WE.q 18 (tv tl (tk, tx) A n c) rfl (fun w' hk => by obtain ⟨⟨x0, x1, x2, x3⟩, -, -⟩ := box4z ((HB0.out.up E.out).up hk); go_simp) ?_
  simp only [Act.put, pA, pB, pC]
  refine WE.c 19 ((HF1.out _ E.out).mono ?_)
  rintro e wb ⟨rfl, hb⟩
  refine ⟨_, rfl, hb, ?_⟩
  replace E := hid (E.out.trans hb)
  clear hb
  simp only [Act.put, pA, pB, pC]
  refine WE.p 20 (.bool false) ?_
  simp only [Act.put, pA, pB, pC]
  refine WE.p 21 (.bool false) ?_
  simp only [Act.put, pA, pB, pC]
  refine WE.q 22 (tv bl (bk, bx) B m d) rfl (fun w' hk => by obtain ⟨⟨x0, x1, x2, x3⟩, -, -⟩ := box4z ((HB1.out.up E.out).up hk); go_simp) ?_
  simp only [Act.put, pA, pB, pC]
  refine WE.c 23 ((HF2.out _ E.out).mono ?_)
  rintro e wb ⟨rfl, hb⟩
  refine ⟨_, rfl, hb, ?_⟩
  replace E := hid (E.out.trans hb)
  clear hb
  simp only [Act.put, pA, pB, pC]
  refine WE.p 24 (.bool false) ?_
  simp only [Act.put, pA, pB, pC]
  refine WE.p 25 (.bool false) ?_
  simp only [Act.put, pA, pB, pC]
  refine WE.p 26 (.bool false) ?_
  simp only [Act.put, pA, pB, pC]
  refine WE.p 27 (.slice SA sn sc) ?_
  simp only [Act.put, pA, pB, pC]
  refine WE.c 28 ((HF3.out _ E.out).mono ?_)
  rintro e wb ⟨rfl, hb⟩
  refine ⟨_, rfl, hb, ?_⟩
  replace E := hid (E.out.trans hb)
  clear hb
  simp only [Act.put, pA, pB, pC]
  refine WE.p 29 (.bool true) ?_
  simp only [Act.put, pA, pB, pC]
  refine WE.p 30 (.bool true) ?_
  simp only [Act.put, pA, pB, pC]
  refine WE.p 31 (.bool true) ?_
  simp only [Act.put, pA, pB, pC]
  refine WE.s 32 ?_
  simp only [Act.put, pA, pB, pC]
  refine WE.s 34 ?_
  simp only [Act.put, pA, pB, pC]
  refine WE.t 33 ?_
  simp only [Act.put, pA, pB, pC]
  refine WE.t 35 ?_
  simp only [Act.put, pA, pB, pC]
  refine WE.s 36 ?_
  simp only [Act.put, pA, pB, pC]
  refine WE.s 37 ?_
  simp only [Act.put, pA, pB, pC]
  refine WE.p 38 (.bool true) ?_
  simp only [Act.put, pA, pB, pC]
  refine WE.p 39 (.bool true) ?_
  simp only [Act.put, pA, pB, pC]
  refine WE.s 40 ?_
  simp only [Act.put, pA, pB, pC]
  refine WE.t 41 ?_
  simp only [Act.put, pA, pB, pC]
  refine WE.s 42 ?_
  simp only [Act.put, pA, pB, pC]
  refine WE.p 43 (.bool true) ?_
  simp only [Act.put, pA, pB, pC]
  refine WE.p 44 (.bool true) ?_
  simp only [Act.put, pA, pB, pC]
  refine WE.s 45 ?_
  simp only [Act.put, pA, pB, pC]
  refine WE.t 46 ?_
  simp only [Act.put, pA, pB, pC]
  refine WE.s 47 ?_
  simp only [Act.put, pA, pB, pC]
  refine WE.p 48 (.bool true) ?_
  simp only [Act.put, pA, pB, pC]
  refine WE.done ?_
  go_wp2
  go_ret
  exact ⟨rfl, HE.out.trans E.out⟩
 have HTX1 := hid (M.txtN_fewK t 6 hf1)
 have HTX2 := hid (M.txtN_fewK body 6 hf2)
 have HDP1 := hid (M.dep_fewK t 6 hf1)
 have HDP2 := hid (M.dep_fewK body 6 hf2)
 have HNM := hid (show ∀ s ∈ l, s.name.length ≤ 1000000000000 from fun s hs => by
  unfold M.fewSs at hf3
  rw [Bool.and_eq_true, List.all_eq_true] at hf3
  have h := hf3.1 s hs
  unfold M.fewSg at h
  rw [Bool.and_eq_true, decide_eq_true_iff] at h
  omega)
 clear hf1 hf2 hf3
 by_cases hcc : 24 < cs
 ·have HCC := hid (show 24 < (cs : Int) by omega)
  clear hcc
  refine wp_region_D [(0, 0), (1, 1), (2, 0), (3, 0), (4, 0), (5, 1), (6, 0), (7, 0), (8, 0), (9, 0), (10, 1), (11, 0), (12, 0), (13, 0), (14, 0), (16, 0), (15, 1), (17, 1), (18, 0), (19, 0), (20, 0), (21, 0), (22, 0), (23, 1), (24, 0), (25, 0), (26, 0), (27, 0), (28, 1), (29, 0), (30, 0)] fun wd hb => ?_
  replace E := hid (E.out.trans hb)
  clear hb
  refine WE.q 18 (tv tl (tk, tx) A n c) rfl (fun w' hk => by obtain ⟨⟨x0, x1, x2, x3⟩, -, -⟩ := box4z ((HB0.out.up E.out).up hk); go_simp) ?_
  simp only [Act.put, pA, pB, pC]
  refine WE.c 19 ((HF1.out _ E.out).mono ?_)
  rintro e wb ⟨rfl, hb⟩
  refine ⟨_, rfl, hb, ?_⟩
  replace E := hid (E.out.trans hb)
  clear hb
  simp only [Act.put, pA, pB, pC]
  refine WE.p 20 (.bool false) ?_
  simp only [Act.put, pA, pB, pC]
  refine WE.p 21 (.bool false) ?_
  simp only [Act.put, pA, pB, pC]
  refine WE.q 22 (tv bl (bk, bx) B m d) rfl (fun w' hk => by obtain ⟨⟨x0, x1, x2, x3⟩, -, -⟩ := box4z ((HB1.out.up E.out).up hk); go_simp) ?_
  simp only [Act.put, pA, pB, pC]
  refine WE.c 23 ((HF2.out _ E.out).mono ?_)
  rintro e wb ⟨rfl, hb⟩
  refine ⟨_, rfl, hb, ?_⟩
  replace E := hid (E.out.trans hb)
  clear hb
  simp only [Act.put, pA, pB, pC]
  refine WE.p 24 (.bool false) ?_
  simp only [Act.put, pA, pB, pC]
  refine WE.p 25 (.bool false) ?_
  simp only [Act.put, pA, pB, pC]
  refine WE.p 26 (.bool false) ?_
  simp only [Act.put, pA, pB, pC]
  refine WE.p 27 (.slice SA sn sc) ?_
  simp only [Act.put, pA, pB, pC]
  refine WE.c 28 ((HF3.out _ E.out).mono ?_)
  rintro e wb ⟨rfl, hb⟩
  refine ⟨_, rfl, hb, ?_⟩
  replace E := hid (E.out.trans hb)
  clear hb
  simp only [Act.put, pA, pB, pC]
  refine WE.p 29 (.bool false) ?_
  simp only [Act.put, pA, pB, pC]
  refine WE.p 30 (.bool false) ?_
  simp only [Act.put, pA, pB, pC]
  refine WE.p 31 (.bool false) ?_
  simp only [Act.put, pA, pB, pC]
  refine WE.q 32 (tv tl (tk, tx) A n c) rfl (fun w' hk => by obtain ⟨⟨x0, x1, x2, x3⟩, -, -⟩ := box4z ((HB0.out.up E.out).up hk); go_simp) ?_
  simp only [Act.put, pA, pB, pC]
  refine WE.q 34 (tv bl (bk, bx) B m d) rfl (fun w' hk => by obtain ⟨⟨x0, x1, x2, x3⟩, -, -⟩ := box4z ((HB1.out.up E.out).up hk); go_simp) ?_
  simp only [Act.put, pA, pB, pC]
  refine WE.c 33 ((HC1.out _ E.out).mono ?_)
  rintro e wb ⟨rfl, hb⟩
  refine ⟨_, rfl, hb, ?_⟩
  replace E := hid (E.out.trans hb)
  clear hb
  simp only [Act.put, pA, pB, pC]
  refine WE.c 35 ((HC2.out _ E.out).mono ?_)
  rintro e wb ⟨rfl, hb⟩
  refine ⟨_, rfl, hb, ?_⟩
  replace E := hid (E.out.trans hb)
  clear hb
  simp only [Act.put, pA, pB, pC]
  refine WE.q 36 (.int .i64 (cs : Int)) rfl (fun w' hk => by have hsum := HSUM.out.1; have hwr : IntKind.i64.wrap (cs : Int) = (cs : Int) := (by have := HSUM.out.2; rw [IntKind.wrap_i64]; omega); go_simp) ?_
  simp only [Act.put, pA, pB, pC]
  refine WE.q 37 (.bool true) rfl (fun w' hk => by have hcc := HCC.out; go_simp) ?_
  simp only [Act.put, pA, pB, pC]
  refine WE.p 38 (.bool true) ?_
  simp only [Act.put, pA, pB, pC]
  refine WE.p 39 (.bool true) ?_
  simp only [Act.put, pA, pB, pC]
  refine WE.s 40 ?_
  simp only [Act.put, pA, pB, pC]
  refine WE.t 41 ?_
  simp only [Act.put, pA, pB, pC]
  refine WE.s 42 ?_
  simp only [Act.put, pA, pB, pC]
  refine WE.p 43 (.bool true) ?_
  simp only [Act.put, pA, pB, pC]
  refine WE.p 44 (.bool true) ?_
  simp only [Act.put, pA, pB, pC]
  refine WE.s 45 ?_
  simp only [Act.put, pA, pB, pC]
  refine WE.t 46 ?_
  simp only [Act.put, pA, pB, pC]
  refine WE.s 47 ?_
  simp only [Act.put, pA, pB, pC]
  refine WE.p 48 (.bool true) ?_
  simp only [Act.put, pA, pB, pC]
  refine WE.done ?_
  go_wp2
  go_ret
  exact ⟨rfl, HE.out.trans E.out⟩
 have HCC := hid (show decide (24 < (cs : Int)) = false by simp; omega)
 have HC24 := hid (show M.cnt t + M.cnt body ≤ 24 by have h1 := HCT.out; have h2 := HCB.out; have h3 := HCS.out; omega)
 clear hcc
 obtain ⟨i1, hi1⟩ : ∃ b, M.isU t = b := ⟨_, rfl⟩
 have HI1 := hid (show ∀ w', Ext W w' → Calls Tryz.prog 26 #[tv tl (tk, tx) A n c] w' (GivesB w' i1) from fun w' e => hi1 ▸ C.is_ t (HT.out.up e) HTX1.out)
 obtain ⟨i2, hi2⟩ : ∃ b, M.isU body = b := ⟨_, rfl⟩
 have HI2 := hid (show ∀ w', Ext W w' → Calls Tryz.prog 26 #[tv bl (bk, bx) B m d] w' (GivesB w' i2) from fun w' e => hi2 ▸ C.is_ body (HO.out.up e) HTX2.out)
 have HIT := hid hi1
 have HIB := hid hi2
 clear hi1 hi2
 cases i1
 ·skip
  refine wp_region_D [(0, 0), (1, 1), (2, 0), (3, 0), (4, 0), (5, 1), (6, 0), (7, 0), (8, 0), (9, 0), (10, 1), (11, 0), (12, 0), (13, 0), (14, 0), (16, 0), (15, 1), (17, 1), (18, 0), (19, 0), (20, 0), (21, 0), (22, 0), (23, 1), (24, 0), (25, 0), (26, 0), (27, 0), (28, 1), (29, 0), (30, 0)] fun wd hb => ?_
  replace E := hid (E.out.trans hb)
  clear hb
  refine WE.q 18 (tv tl (tk, tx) A n c) rfl (fun w' hk => by obtain ⟨⟨x0, x1, x2, x3⟩, -, -⟩ := box4z ((HB0.out.up E.out).up hk); go_simp) ?_
  simp only [Act.put, pA, pB, pC]
  refine WE.c 19 ((HF1.out _ E.out).mono ?_)
  rintro e wb ⟨rfl, hb⟩
  refine ⟨_, rfl, hb, ?_⟩
  replace E := hid (E.out.trans hb)
  clear hb
  simp only [Act.put, pA, pB, pC]
  refine WE.p 20 (.bool false) ?_
  simp only [Act.put, pA, pB, pC]
  refine WE.p 21 (.bool false) ?_
  simp only [Act.put, pA, pB, pC]
  refine WE.q 22 (tv bl (bk, bx) B m d) rfl (fun w' hk => by obtain ⟨⟨x0, x1, x2, x3⟩, -, -⟩ := box4z ((HB1.out.up E.out).up hk); go_simp) ?_
  simp only [Act.put, pA, pB, pC]
  refine WE.c 23 ((HF2.out _ E.out).mono ?_)
  rintro e wb ⟨rfl, hb⟩
  refine ⟨_, rfl, hb, ?_⟩
  replace E := hid (E.out.trans hb)
  clear hb
  simp only [Act.put, pA, pB, pC]
  refine WE.p 24 (.bool false) ?_
  simp only [Act.put, pA, pB, pC]
  refine WE.p 25 (.bool false) ?_
  simp only [Act.put, pA, pB, pC]
  refine WE.p 26 (.bool false) ?_
  simp only [Act.put, pA, pB, pC]
  refine WE.p 27 (.slice SA sn sc) ?_
  simp only [Act.put, pA, pB, pC]
  refine WE.c 28 ((HF3.out _ E.out).mono ?_)
  rintro e wb ⟨rfl, hb⟩
  refine ⟨_, rfl, hb, ?_⟩
  replace E := hid (E.out.trans hb)
  clear hb
  simp only [Act.put, pA, pB, pC]
  refine WE.p 29 (.bool false) ?_
  simp only [Act.put, pA, pB, pC]
  refine WE.p 30 (.bool false) ?_
  simp only [Act.put, pA, pB, pC]
  refine WE.p 31 (.bool false) ?_
  simp only [Act.put, pA, pB, pC]
  refine WE.q 32 (tv tl (tk, tx) A n c) rfl (fun w' hk => by obtain ⟨⟨x0, x1, x2, x3⟩, -, -⟩ := box4z ((HB0.out.up E.out).up hk); go_simp) ?_
  simp only [Act.put, pA, pB, pC]
  refine WE.q 34 (tv bl (bk, bx) B m d) rfl (fun w' hk => by obtain ⟨⟨x0, x1, x2, x3⟩, -, -⟩ := box4z ((HB1.out.up E.out).up hk); go_simp) ?_
  simp only [Act.put, pA, pB, pC]
  refine WE.c 33 ((HC1.out _ E.out).mono ?_)
  rintro e wb ⟨rfl, hb⟩
  refine ⟨_, rfl, hb, ?_⟩
  replace E := hid (E.out.trans hb)
  clear hb
  simp only [Act.put, pA, pB, pC]
  refine WE.c 35 ((HC2.out _ E.out).mono ?_)
  rintro e wb ⟨rfl, hb⟩
  refine ⟨_, rfl, hb, ?_⟩
  replace E := hid (E.out.trans hb)
  clear hb
  simp only [Act.put, pA, pB, pC]
  refine WE.q 36 (.int .i64 (cs : Int)) rfl (fun w' hk => by have hsum := HSUM.out.1; have hwr : IntKind.i64.wrap (cs : Int) = (cs : Int) := (by have := HSUM.out.2; rw [IntKind.wrap_i64]; omega); go_simp) ?_
  simp only [Act.put, pA, pB, pC]
  refine WE.q 37 (.bool false) rfl (fun w' hk => by have hcc := HCC.out; go_simp) ?_
  simp only [Act.put, pA, pB, pC]
  refine WE.p 38 (.bool false) ?_
  simp only [Act.put, pA, pB, pC]
  refine WE.p 39 (.bool false) ?_
  simp only [Act.put, pA, pB, pC]
  refine WE.q 40 (tv tl (tk, tx) A n c) rfl (fun w' hk => by obtain ⟨⟨x0, x1, x2, x3⟩, -, -⟩ := box4z ((HB0.out.up E.out).up hk); go_simp) ?_
  simp only [Act.put, pA, pB, pC]
  refine WE.c 41 ((HI1.out _ E.out).mono ?_)
  rintro e wb ⟨rfl, hb⟩
  refine ⟨_, rfl, hb, ?_⟩
  replace E := hid (E.out.trans hb)
  clear hb
  simp only [Act.put, pA, pB, pC]
  refine WE.p 42 (.bool true) ?_
  simp only [Act.put, pA, pB, pC]
  refine WE.p 43 (.bool true) ?_
  simp only [Act.put, pA, pB, pC]
  refine WE.p 44 (.bool true) ?_
  simp only [Act.put, pA, pB, pC]
  refine WE.s 45 ?_
  simp only [Act.put, pA, pB, pC]
  refine WE.t 46 ?_
  simp only [Act.put, pA, pB, pC]
  refine WE.s 47 ?_
  simp only [Act.put, pA, pB, pC]
  refine WE.p 48 (.bool true) ?_
  simp only [Act.put, pA, pB, pC]
  refine WE.done ?_
  go_wp2
  go_ret
  exact ⟨rfl, HE.out.trans E.out⟩
 cases i2
 ·skip
  refine wp_region_D [(0, 0), (1, 1), (2, 0), (3, 0), (4, 0), (5, 1), (6, 0), (7, 0), (8, 0), (9, 0), (10, 1), (11, 0), (12, 0), (13, 0), (14, 0), (16, 0), (15, 1), (17, 1), (18, 0), (19, 0), (20, 0), (21, 0), (22, 0), (23, 1), (24, 0), (25, 0), (26, 0), (27, 0), (28, 1), (29, 0), (30, 0)] fun wd hb => ?_
  replace E := hid (E.out.trans hb)
  clear hb
  refine WE.q 18 (tv tl (tk, tx) A n c) rfl (fun w' hk => by obtain ⟨⟨x0, x1, x2, x3⟩, -, -⟩ := box4z ((HB0.out.up E.out).up hk); go_simp) ?_
  simp only [Act.put, pA, pB, pC]
  refine WE.c 19 ((HF1.out _ E.out).mono ?_)
  rintro e wb ⟨rfl, hb⟩
  refine ⟨_, rfl, hb, ?_⟩
  replace E := hid (E.out.trans hb)
  clear hb
  simp only [Act.put, pA, pB, pC]
  refine WE.p 20 (.bool false) ?_
  simp only [Act.put, pA, pB, pC]
  refine WE.p 21 (.bool false) ?_
  simp only [Act.put, pA, pB, pC]
  refine WE.q 22 (tv bl (bk, bx) B m d) rfl (fun w' hk => by obtain ⟨⟨x0, x1, x2, x3⟩, -, -⟩ := box4z ((HB1.out.up E.out).up hk); go_simp) ?_
  simp only [Act.put, pA, pB, pC]
  refine WE.c 23 ((HF2.out _ E.out).mono ?_)
  rintro e wb ⟨rfl, hb⟩
  refine ⟨_, rfl, hb, ?_⟩
  replace E := hid (E.out.trans hb)
  clear hb
  simp only [Act.put, pA, pB, pC]
  refine WE.p 24 (.bool false) ?_
  simp only [Act.put, pA, pB, pC]
  refine WE.p 25 (.bool false) ?_
  simp only [Act.put, pA, pB, pC]
  refine WE.p 26 (.bool false) ?_
  simp only [Act.put, pA, pB, pC]
  refine WE.p 27 (.slice SA sn sc) ?_
  simp only [Act.put, pA, pB, pC]
  refine WE.c 28 ((HF3.out _ E.out).mono ?_)
  rintro e wb ⟨rfl, hb⟩
  refine ⟨_, rfl, hb, ?_⟩
  replace E := hid (E.out.trans hb)
  clear hb
  simp only [Act.put, pA, pB, pC]
  refine WE.p 29 (.bool false) ?_
  simp only [Act.put, pA, pB, pC]
  refine WE.p 30 (.bool false) ?_
  simp only [Act.put, pA, pB, pC]
  refine WE.p 31 (.bool false) ?_
  simp only [Act.put, pA, pB, pC]
  refine WE.q 32 (tv tl (tk, tx) A n c) rfl (fun w' hk => by obtain ⟨⟨x0, x1, x2, x3⟩, -, -⟩ := box4z ((HB0.out.up E.out).up hk); go_simp) ?_
  simp only [Act.put, pA, pB, pC]
  refine WE.q 34 (tv bl (bk, bx) B m d) rfl (fun w' hk => by obtain ⟨⟨x0, x1, x2, x3⟩, -, -⟩ := box4z ((HB1.out.up E.out).up hk); go_simp) ?_
  simp only [Act.put, pA, pB, pC]
  refine WE.c 33 ((HC1.out _ E.out).mono ?_)
  rintro e wb ⟨rfl, hb⟩
  refine ⟨_, rfl, hb, ?_⟩
  replace E := hid (E.out.trans hb)
  clear hb
  simp only [Act.put, pA, pB, pC]
  refine WE.c 35 ((HC2.out _ E.out).mono ?_)
  rintro e wb ⟨rfl, hb⟩
  refine ⟨_, rfl, hb, ?_⟩
  replace E := hid (E.out.trans hb)
  clear hb
  simp only [Act.put, pA, pB, pC]
  refine WE.q 36 (.int .i64 (cs : Int)) rfl (fun w' hk => by have hsum := HSUM.out.1; have hwr : IntKind.i64.wrap (cs : Int) = (cs : Int) := (by have := HSUM.out.2; rw [IntKind.wrap_i64]; omega); go_simp) ?_
  simp only [Act.put, pA, pB, pC]
  refine WE.q 37 (.bool false) rfl (fun w' hk => by have hcc := HCC.out; go_simp) ?_
  simp only [Act.put, pA, pB, pC]
  refine WE.p 38 (.bool false) ?_
  simp only [Act.put, pA, pB, pC]
  refine WE.p 39 (.bool false) ?_
  simp only [Act.put, pA, pB, pC]
  refine WE.q 40 (tv tl (tk, tx) A n c) rfl (fun w' hk => by obtain ⟨⟨x0, x1, x2, x3⟩, -, -⟩ := box4z ((HB0.out.up E.out).up hk); go_simp) ?_
  simp only [Act.put, pA, pB, pC]
  refine WE.c 41 ((HI1.out _ E.out).mono ?_)
  rintro e wb ⟨rfl, hb⟩
  refine ⟨_, rfl, hb, ?_⟩
  replace E := hid (E.out.trans hb)
  clear hb
  simp only [Act.put, pA, pB, pC]
  refine WE.p 42 (.bool false) ?_
  simp only [Act.put, pA, pB, pC]
  refine WE.p 43 (.bool false) ?_
  simp only [Act.put, pA, pB, pC]
  refine WE.p 44 (.bool false) ?_
  simp only [Act.put, pA, pB, pC]
  refine WE.q 45 (tv bl (bk, bx) B m d) rfl (fun w' hk => by obtain ⟨⟨x0, x1, x2, x3⟩, -, -⟩ := box4z ((HB1.out.up E.out).up hk); go_simp) ?_
  simp only [Act.put, pA, pB, pC]
  refine WE.c 46 ((HI2.out _ E.out).mono ?_)
  rintro e wb ⟨rfl, hb⟩
  refine ⟨_, rfl, hb, ?_⟩
  replace E := hid (E.out.trans hb)
  clear hb
  simp only [Act.put, pA, pB, pC]
  refine WE.p 47 (.bool true) ?_
  simp only [Act.put, pA, pB, pC]
  refine WE.p 48 (.bool true) ?_
  simp only [Act.put, pA, pB, pC]
  refine WE.done ?_
  go_wp2
  go_ret
  exact ⟨rfl, HE.out.trans E.out⟩
 refine wp_region_D [(0, 0), (1, 1), (2, 0), (3, 0), (4, 0), (5, 1), (6, 0), (7, 0), (8, 0), (9, 0), (10, 1), (11, 0), (12, 0), (13, 0), (14, 0), (16, 0), (15, 1), (17, 1), (18, 0), (19, 0), (20, 0), (21, 0), (22, 0), (23, 1), (24, 0), (25, 0), (26, 0), (27, 0), (28, 1), (29, 0), (30, 0)] fun wd hb => ?_
 replace E := hid (E.out.trans hb)
 clear hb
 refine WE.q 18 (tv tl (tk, tx) A n c) rfl (fun w' hk => by obtain ⟨⟨x0, x1, x2, x3⟩, -, -⟩ := box4z ((HB0.out.up E.out).up hk); go_simp) ?_
 simp only [Act.put, pA, pB, pC]
 refine WE.c 19 ((HF1.out _ E.out).mono ?_)
 rintro e wb ⟨rfl, hb⟩
 refine ⟨_, rfl, hb, ?_⟩
 replace E := hid (E.out.trans hb)
 clear hb
 simp only [Act.put, pA, pB, pC]
 refine WE.p 20 (.bool false) ?_
 simp only [Act.put, pA, pB, pC]
 refine WE.p 21 (.bool false) ?_
 simp only [Act.put, pA, pB, pC]
 refine WE.q 22 (tv bl (bk, bx) B m d) rfl (fun w' hk => by obtain ⟨⟨x0, x1, x2, x3⟩, -, -⟩ := box4z ((HB1.out.up E.out).up hk); go_simp) ?_
 simp only [Act.put, pA, pB, pC]
 refine WE.c 23 ((HF2.out _ E.out).mono ?_)
 rintro e wb ⟨rfl, hb⟩
 refine ⟨_, rfl, hb, ?_⟩
 replace E := hid (E.out.trans hb)
 clear hb
 simp only [Act.put, pA, pB, pC]
 refine WE.p 24 (.bool false) ?_
 simp only [Act.put, pA, pB, pC]
 refine WE.p 25 (.bool false) ?_
 simp only [Act.put, pA, pB, pC]
 refine WE.p 26 (.bool false) ?_
 simp only [Act.put, pA, pB, pC]
 refine WE.p 27 (.slice SA sn sc) ?_
 simp only [Act.put, pA, pB, pC]
 refine WE.c 28 ((HF3.out _ E.out).mono ?_)
 rintro e wb ⟨rfl, hb⟩
 refine ⟨_, rfl, hb, ?_⟩
 replace E := hid (E.out.trans hb)
 clear hb
 simp only [Act.put, pA, pB, pC]
 refine WE.p 29 (.bool false) ?_
 simp only [Act.put, pA, pB, pC]
 refine WE.p 30 (.bool false) ?_
 simp only [Act.put, pA, pB, pC]
 refine WE.p 31 (.bool false) ?_
 simp only [Act.put, pA, pB, pC]
 refine WE.q 32 (tv tl (tk, tx) A n c) rfl (fun w' hk => by obtain ⟨⟨x0, x1, x2, x3⟩, -, -⟩ := box4z ((HB0.out.up E.out).up hk); go_simp) ?_
 simp only [Act.put, pA, pB, pC]
 refine WE.q 34 (tv bl (bk, bx) B m d) rfl (fun w' hk => by obtain ⟨⟨x0, x1, x2, x3⟩, -, -⟩ := box4z ((HB1.out.up E.out).up hk); go_simp) ?_
 simp only [Act.put, pA, pB, pC]
 refine WE.c 33 ((HC1.out _ E.out).mono ?_)
 rintro e wb ⟨rfl, hb⟩
 refine ⟨_, rfl, hb, ?_⟩
 replace E := hid (E.out.trans hb)
 clear hb
 simp only [Act.put, pA, pB, pC]
 refine WE.c 35 ((HC2.out _ E.out).mono ?_)
 rintro e wb ⟨rfl, hb⟩
 refine ⟨_, rfl, hb, ?_⟩
 replace E := hid (E.out.trans hb)
 clear hb
 simp only [Act.put, pA, pB, pC]
 refine WE.q 36 (.int .i64 (cs : Int)) rfl (fun w' hk => by have hsum := HSUM.out.1; have hwr : IntKind.i64.wrap (cs : Int) = (cs : Int) := (by have := HSUM.out.2; rw [IntKind.wrap_i64]; omega); go_simp) ?_
 simp only [Act.put, pA, pB, pC]
 refine WE.q 37 (.bool false) rfl (fun w' hk => by have hcc := HCC.out; go_simp) ?_
 simp only [Act.put, pA, pB, pC]
 refine WE.p 38 (.bool false) ?_
 simp only [Act.put, pA, pB, pC]
 refine WE.p 39 (.bool false) ?_
 simp only [Act.put, pA, pB, pC]
 refine WE.q 40 (tv tl (tk, tx) A n c) rfl (fun w' hk => by obtain ⟨⟨x0, x1, x2, x3⟩, -, -⟩ := box4z ((HB0.out.up E.out).up hk); go_simp) ?_
 simp only [Act.put, pA, pB, pC]
 refine WE.c 41 ((HI1.out _ E.out).mono ?_)
 rintro e wb ⟨rfl, hb⟩
 refine ⟨_, rfl, hb, ?_⟩
 replace E := hid (E.out.trans hb)
 clear hb
 simp only [Act.put, pA, pB, pC]
 refine WE.p 42 (.bool false) ?_
 simp only [Act.put, pA, pB, pC]
 refine WE.p 43 (.bool false) ?_
 simp only [Act.put, pA, pB, pC]
 refine WE.p 44 (.bool false) ?_
 simp only [Act.put, pA, pB, pC]
 refine WE.q 45 (tv bl (bk, bx) B m d) rfl (fun w' hk => by obtain ⟨⟨x0, x1, x2, x3⟩, -, -⟩ := box4z ((HB1.out.up E.out).up hk); go_simp) ?_
 simp only [Act.put, pA, pB, pC]
 refine WE.c 46 ((HI2.out _ E.out).mono ?_)
 rintro e wb ⟨rfl, hb⟩
 refine ⟨_, rfl, hb, ?_⟩
 replace E := hid (E.out.trans hb)
 clear hb
 simp only [Act.put, pA, pB, pC]
 refine WE.p 47 (.bool false) ?_
 simp only [Act.put, pA, pB, pC]
 refine WE.p 48 (.bool false) ?_
 simp only [Act.put, pA, pB, pC]
 refine WE.done ?_
 clear HF1 HF2 HF3 HC1 HC2 HSUM HCC HI1 HI2 HCT HCB HCS
 obtain ⟨x5, hx5⟩ : ∃ x, x = 97 + r := ⟨_, rfl⟩
 have hr3' : r < 3 := by omega
 obtain ⟨b5, hb5⟩ : ∃ b, b = UInt8.ofNat x5 := ⟨_, rfl⟩
 have hnf := M.nameFacts ⟨r, hr3'⟩
 simp only at hnf
 rw [← hx5, ← hb5] at hnf
 have q3 : IntKind.u8.wrap (97 + (r : Int)) = (x5 : Int) := by rw [IntKind.wrap_u8]; omega
 have q4 : 97 + (r : Int) = (x5 : Int) := by omega
 have hx256 : x5 < 256 := by omega
 have hcv : ∀ w0 : World, (convert 52 9 (.slice (some ⟨w0.heap.size, 0, none⟩) 1 1)).run Tryz.prog (w0.alloc (.cells #[.int .u8 (x5 : Int)] 5)) = .ok (str [b5]) (w0.alloc (.cells #[.int .u8 (x5 : Int)] 5)) := fun w0 => hb5 ▸ byteStr x5 hx256 _ _ _ (Box.new w0 _ _)
 have hcat : (⟨#[118]⟩ : ByteArray) ++ ⟨#[b5]⟩ = ⟨#[118, b5]⟩ := app_str [118] [b5]
 clear hx5 hb5
 go_upto_region 6 with (fail)
 have HNF := hid hnf
 clear hnf hcat hcv q3 q4 hx256 hr3'
 refine swp_at (fun W2 => Ext W W2) (E.out.alloc' _) ?_
 clear E
 intro W2 e2
 have E := hid e2
 obtain ⟨⟨y0, y1, y2, y3⟩, -, -⟩ := box4z (HB1.out.up e2)
 clear e2
 obtain ⟨s, hs⟩ : ∃ s, [118, b5] = s := ⟨_, rfl⟩
 rw [hs] at HNF
 have HS20 := hid (show s.length ≤ 40 by rw [← hs]; simp)
 have hstr : (Value.string ⟨#[118, b5]⟩) = str s := by rw [← hs]
 rw [hstr]
 clear hs hstr
 obtain ⟨h2, hh2⟩ : ∃ b, M.hasW M.bLet body = b := ⟨_, rfl⟩
 obtain ⟨h3, hh3⟩ : ∃ b, M.hasW M.bLet t = b := ⟨_, rfl⟩
 have HH2 := hid (show ∀ w', Ext W w' → Calls Tryz.prog 27 #[tv bl (bk, bx) B m d, str [108, 101, 116]] w' (GivesB w' h2) from fun w' e => hh2 ▸ has_s M.bLet body (HO.out.up e))
 have HH3 := hid (show ∀ w', Ext W w' → Calls Tryz.prog 27 #[tv tl (tk, tx) A n c, str [108, 101, 116]] w' (GivesB w' h3) from fun w' e => hh3 ▸ has_s M.bLet t (HT.out.up e))
 have HHA := hid hh2
 have HHB := hid hh3
 clear hh2 hh3
 go_wp2_with fail
 refine (HH2.out _ E.out).mono ?_
 rintro e wb ⟨rfl, hb⟩
 replace E := hid (E.out.trans hb)
 clear hb y0 y1 y2 y3
 cases h2
 case true =>
  go_wp2
  go_ret
  exact ⟨rfl, HE.out.trans E.out⟩
 obtain ⟨⟨y0, y1, y2, y3⟩, -, -⟩ := box4z (HB0.out.up E.out)
 go_wp2_with fail
 refine (HH3.out _ E.out).mono ?_
 rintro e wb ⟨rfl, hb⟩
 replace E := hid (E.out.trans hb)
 clear hb y0 y1 y2 y3
 cases h3
 case true =>
  go_wp2
  go_ret
  exact ⟨rfl, HE.out.trans E.out⟩
 clear HH2 HH3
 obtain ⟨⟨R1, e1⟩, hR1⟩ : ∃ r, M.rTerm M.barred l (M.letT s t body) = r := ⟨_, rfl⟩
 obtain ⟨⟨R2, e2⟩, hR2⟩ : ∃ r, M.rTerm M.barred l (M.putT s t body) = r := ⟨_, rfl⟩
 obtain ⟨⟨R3, e3⟩, hR3⟩ : ∃ r, M.rTerm M.barred l t = r := ⟨_, rfl⟩
 have hsaid := M.lets_said (l := l) HNF.out.1 HNF.out.2 HIT.out HIB.out HC24.out (by have h1 := HDP1.out; have h2 := HDP2.out; omega) HHB.out HHA.out
 rw [hR1, hR2, hR3] at hsaid
 have HSAID := hid hsaid
 have HK1 := hid (show M.okR (R1, e1) from hR1 ▸ M.rTerm_ok _ _ _)
 have HK2 := hid (show M.okR (R2, e2) from hR2 ▸ M.rTerm_ok _ _ _)
 have HR1 := hid hR1
 have HR2 := hid hR2
 have HR3 := hid hR3
 have HTXL := hid (show M.txtN (M.letT s t body) = true by
  have h1 := HTX1.out
  have h2 := HTX2.out
  have h3 := HS20.out
  simp [M.letT, M.txtN, M.txtNs, h1, h2, M.bLet, h3])
 have HTXP := hid (show M.txtN (M.putT s t body) = true from M.putT_txt HTX1.out _ HTX2.out)
 clear hR1 hR2 hR3 hsaid HIT HIB HHA HHB HDP1 HDP2 HTX2
 go_wp2_with fail
 refine wp_region_L [(1, 0), (3, 0), (8, 0), (11, 0), (0, 2), (2, 2), (4, 2), (5, 2), (6, 2), (7, 2), (9, 2), (10, 2), (12, 2), (13, 0), (14, 0), (15, 5), (16, 3), (17, 4), (18, 5)] 33 zero6 fun wd hb => ?_
 replace E := hid (E.out.trans hb)
 have HED := hid E.out.size
 clear hb
 refine WE.p 63 (str s) ?_
 simp only [Act.put, pA, pB, pC]
 refine WE.q 65 (tv tl (tk, tx) A n c) rfl (fun w' hk => by obtain ⟨⟨x0, x1, x2, x3⟩, -, -⟩ := box4z ((HB0.out.up E.out).up hk); go_simp) ?_
 simp only [Act.put, pA, pB, pC]
 refine WE.q 70 (tv bl (bk, bx) B m d) rfl (fun w' hk => by obtain ⟨⟨x0, x1, x2, x3⟩, -, -⟩ := box4z ((HB1.out.up E.out).up hk); go_simp) ?_
 simp only [Act.put, pA, pB, pC]
 refine WE.p 73 (.slice SA sn sc) ?_
 simp only [Act.put, pA, pB, pC]
 refine WE.callR (d := some 62) rfl rfl (by rfl) (fun w => by go_simp) fun wa hea => ((lsym_t [108, 101, 116] wa).mono ?_)
 rintro e wb ⟨rfl, hb⟩
 refine ⟨_, rfl, hb, ?_⟩
 replace hb := hea.trans hb
 replace E := hid (E.out.trans hb)
 clear hea hb
 simp only [Act.put, pA, pB, pC]
 refine WE.callR (d := some 64) rfl rfl (by rfl) (fun w => by go_simp) fun wa hea => ((lsym_t s wa).mono ?_)
 rintro e wb ⟨rfl, hb⟩
 refine ⟨_, rfl, hb, ?_⟩
 replace hb := hea.trans hb
 replace E := hid (E.out.trans hb)
 clear hea hb
 simp only [Act.put, pA, pB, pC]
 refine WE.newR (d := some 66) (cs := #[.bool false, .int .i64 4, str s, .slice none 0 0, .bool tl, .int .i64 tk, str tx, .slice A n c]) (t := 26) (v := fun g => .slice (some ⟨g, 0, none⟩) 2 2) rfl rfl (by rfl) (fun w => by go_simp) fun g66 wb hb hbx _ => ?_
 replace E := hid (E.out.trans hb)
 have HK66 := hid (Kids.box (ks := [M.SY s, t]) hbx (by obtain ⟨q1, q2, q3⟩ := HTE.out; subst q1 q2 q3; exact Reps.leaf (Reps.cons (HKT.out.up E.out) rfl (Reps.nil _))) rfl (by simp))
 clear hb hbx
 simp only [Act.put, pA, pB, pC]
 refine WE.callR (d := some 67) rfl rfl (by rfl) (fun w => by go_simp) fun wa hea => ((llist_t (some ⟨g66, 0, none⟩) 2 2 wa).mono ?_)
 rintro e wb ⟨rfl, hb⟩
 refine ⟨_, rfl, hb, ?_⟩
 replace hb := hea.trans hb
 replace E := hid (E.out.trans hb)
 replace HK66 := hid (HK66.out.up hb)
 clear hea hb
 simp only [Act.put, pA, pB, pC]
 refine WE.newR (d := some 68) (cs := #[.bool true, .int .i64 0, .string ⟨#[]⟩, .slice (some ⟨g66, 0, none⟩) 2 2]) (t := 26) (v := fun g => .slice (some ⟨g, 0, none⟩) 1 1) rfl rfl (by rfl) (fun w => by go_simp) fun g68 wb hb hbx _ => ?_
 replace E := hid (E.out.trans hb)
 replace HK66 := hid (HK66.out.up hb)
 have HK68 := hid (Kids.box (ks := [M.LI [M.SY s, t]]) hbx (Reps.list HK66.out (Reps.nil _)) rfl (by simp))
 clear hb hbx
 simp only [Act.put, pA, pB, pC]
 refine WE.callR (d := some 69) rfl rfl (by rfl) (fun w => by go_simp) fun wa hea => ((llist_t (some ⟨g68, 0, none⟩) 1 1 wa).mono ?_)
 rintro e wb ⟨rfl, hb⟩
 refine ⟨_, rfl, hb, ?_⟩
 replace hb := hea.trans hb
 replace E := hid (E.out.trans hb)
 replace HK66 := hid (HK66.out.up hb)
 replace HK68 := hid (HK68.out.up hb)
 clear hea hb
 simp only [Act.put, pA, pB, pC]
 refine WE.newR (d := some 71) (cs := #[.bool false, .int .i64 4, str [108, 101, 116], .slice none 0 0, .bool true, .int .i64 0, .string ⟨#[]⟩, .slice (some ⟨g68, 0, none⟩) 1 1, .bool bl, .int .i64 bk, str bx, .slice B m d]) (t := 26) (v := fun g => .slice (some ⟨g, 0, none⟩) 3 3) rfl rfl (by rfl) (fun w => by go_simp) fun g71 wb hb hbx _ => ?_
 replace E := hid (E.out.trans hb)
 replace HK66 := hid (HK66.out.up hb)
 replace HK68 := hid (HK68.out.up hb)
 have HK71 := hid (Kids.box (ks := [M.SY [108, 101, 116], M.LI [M.LI [M.SY s, t]], body]) hbx (by obtain ⟨q1, q2, q3⟩ := HBE.out; subst q1 q2 q3; exact Reps.leaf (Reps.list HK68.out (Reps.cons (HKB.out.up E.out) rfl (Reps.nil _)))) rfl (by simp))
 clear hb hbx
 simp only [Act.put, pA, pB, pC]
 refine WE.callR (d := some 72) rfl rfl (by rfl) (fun w => by go_simp) fun wa hea => ((llist_t (some ⟨g71, 0, none⟩) 3 3 wa).mono ?_)
 rintro e wb ⟨rfl, hb⟩
 refine ⟨_, rfl, hb, ?_⟩
 replace hb := hea.trans hb
 replace E := hid (E.out.trans hb)
 replace HK66 := hid (HK66.out.up hb)
 replace HK68 := hid (HK68.out.up hb)
 replace HK71 := hid (HK71.out.up hb)
 clear hea hb
 simp only [Act.put, pA, pB, pC]
 refine WE.callR (d := some 74) rfl rfl (by rfl) (fun w => by go_simp) fun wa hea => ((term_givesS HR1.out HTXL.out (isT_list (HK71.out.up hea)) (HL.out.up (E.out.trans hea)) HNM.out (HTB.out _ (HE.out.trans (E.out.trans hea))).1).mono ?_)
 rintro e wb ⟨v, rfl, hT, hb⟩
 refine ⟨_, rfl, hb, ?_⟩
 replace hT := hT.sub (gp_sub _ _)
 replace hb := hea.trans hb
 replace E := hid (E.out.trans hb)
 clear HK66 HK68 HK71
 obtain ⟨N1, nn1, nc1, A1, n1, c1, rfl, -, -, -, -, -, -⟩ := hT.shape
 have HX := hid hT
 clear hT hea hb
 simp only [Act.put, pA, pB, pC]
 refine WE.p 61 (.tuple #[kv R1.op R1.g N1 nn1 nc1 R1.name R1.sort A1 n1 c1, .int .i64 e1]) ?_
 simp only [Act.put, pA, pB, pC]
 refine WE.p 75 (kv R1.op R1.g N1 nn1 nc1 R1.name R1.sort A1 n1 c1) ?_
 simp only [Act.put, pA, pB, pC]
 refine WE.y 76 (.int .i64 e1) ?_
 simp only [Act.put, pA, pB, pC]
 refine WE.var (d := some 10) rfl fun gi w6 hb hbx hge hng => ?_
 replace E := hid (E.out.trans hb)
 replace HX := hid (HX.out.up hb)
 obtain ⟨⟨z0, z1, z2, z3, z4, z5⟩, ⟨a0, a1, a2, a3, a4, a5⟩, hk6⟩ := boxF6 (show Box w6 gi zero6 33 from hbx)
 simp only [Act.put, pA, pB, pC]
 refine WE.store (w' := put6 w6 gi (.int .i64 R1.op) (.bool R1.g) (.slice N1 nn1 nc1) (str R1.name) (.int .i64 R1.sort) (.slice A1 n1 c1)) rfl rfl (by rfl) (by go_simp) (by simp [put6]) ?_
 refine WE.y 11 (.int .i64 e1) ?_
 refine WE.done ?_
 simp only [Act.put, pA, pB, pC]
 have HZ := hid (show Box w6 gi zero6 33 from hbx)
 have hgg : W.heap.size ≤ gi := Nat.le_trans HED.out hge
 obtain ⟨W3, hW⟩ : ∃ W3, W3 = put6 w6 gi (.int .i64 R1.op) (.bool R1.g) (.slice N1 nn1 nc1) (str R1.name) (.int .i64 R1.sort) (.slice A1 n1 c1) := ⟨_, rfl⟩
 rw [← hW]
 have HX1 := hid (show Box W3 gi #[.int .i64 R1.op, .bool R1.g, .slice N1 nn1 nc1, str R1.name, .int .i64 R1.sort, .slice A1 n1 c1] 33 by rw [hW]; exact put6_boxL HZ.out _ _ _ _ _ _)
 have HX2 := hid (show IsTm W3 R1 (kv R1.op R1.g N1 nn1 nc1 R1.name R1.sort A1 n1 c1) by rw [hW]; exact isTm_keep HK1.out HZ.out HX.out)
 replace E := hid (show Ext W W3 by rw [hW]; exact put6_ext E.out hgg)
 clear hW HX HZ hb hbx hge hng z0 z1 z2 z3 z4 z5 a0 a1 a2 a3 a4 a5 hk6 HED hgg HK1 HTXL HR1 HKT HKB HTE HBE
 obtain ⟨⟨y0, y1, y2, y3⟩, -, -⟩ := box4z (HB1.out.up E.out)
 obtain ⟨⟨u0, u1, u2, u3⟩, -, -⟩ := box4z (HB0.out.up E.out)
 have HPUT := hid (show ∀ w', Ext W w' → Calls Tryz.prog 30 #[tv bl (bk, bx) B m d, str s, tv tl (tk, tx) A n c] w' (GivesTG (fun b => b < w'.heap.size) w' (M.putT s t body)) from fun w' e => put_s s t body _ (fun b hb => hb) ((HT.out.up e).sub (gp_all w')) ((HO.out.up e).sub (gp_all w')) (by have := HC24.out; omega))
 obtain ⟨PT, hPT⟩ : ∃ p, M.putT s t body = p := ⟨_, rfl⟩
 rw [hPT] at HPUT HTXP HR2
 clear hPT
 go_wp2_with fail
 refine (HPUT.out _ E.out).mono ?_
 rintro e wb ⟨v5, rfl, hv5, hb⟩
 replace E := hid (E.out.trans hb)
 replace HX1 := hid (HX1.out.up hb)
 replace HX2 := hid (HX2.out.up hb)
 have HV5 := hid hv5.of_gp
 obtain ⟨A5, c5, rfl, -⟩ := hv5
 obtain ⟨n5, hn5⟩ : ∃ n, PT.kids.length = n := ⟨_, rfl⟩
 rw [hn5] at HV5 ⊢
 clear hb hn5 HPUT y0 y1 y2 y3 u0 u1 u2 u3
 go_wp2_with fail
 refine (term_givesS HR2.out HTXP.out HV5.out (HL.out.up E.out) HNM.out (HTB.out _ (HE.out.trans E.out)).1).mono ?_
 rintro e wb ⟨v, rfl, hT, hb⟩
 replace hT := hT.sub (gp_sub _ _)
 replace E := hid (E.out.trans hb)
 replace HX1 := hid (HX1.out.up hb)
 replace HX2 := hid (HX2.out.up hb)
 obtain ⟨N2, nn2, nc2, A2, n2, c2, rfl, -, -, -, -, -, -⟩ := hT.shape
 have HY := hid hT
 clear hT hb HV5
 go_upto_region 10 with (fail)
 refine swp_at (fun W4 => Box W4 wb.heap.size #[.int .i64 R2.op, .bool R2.g, .slice N2 nn2 nc2, str R2.name, .int .i64 R2.sort, .slice A2 n2 c2] 33 ∧ IsTm W4 R2 (kv R2.op R2.g N2 nn2 nc2 R2.name R2.sort A2 n2 c2) ∧ Box W4 gi #[.int .i64 R1.op, .bool R1.g, .slice N1 nn1 nc1, str R1.name, .int .i64 R1.sort, .slice A1 n1 c1] 33 ∧ IsTm W4 R1 (kv R1.op R1.g N1 nn1 nc1 R1.name R1.sort A1 n1 c1) ∧ Ext W W4) ⟨Box.new _ _ _, HY.out.up (Ext.alloc _ _), HX1.out.alloc _, HX2.out.up (Ext.alloc _ _), E.out.alloc' _⟩ ?_
 clear E HX1 HX2 HY
 intro W4 ⟨k1, k2, k3, k4, k5⟩
 obtain ⟨gy, hgy⟩ : ∃ g, wb.heap.size = g := ⟨_, rfl⟩
 rw [hgy] at k1 ⊢
 have HY1 := hid k1
 have HY2 := hid k2
 have HX1 := hid k3
 have HX2 := hid k4
 have E := hid k5
 obtain ⟨⟨u0, u1, u2, u3⟩, -, -⟩ := box4z (HB0.out.up k5)
 clear k1 k2 k3 k4 k5 hgy
 go_wp2_with fail
 refine (term_givesS HR3.out HTX1.out (HT.out.up E.out) (HL.out.up E.out) HNM.out (HTB.out _ (HE.out.trans E.out)).1).mono ?_
 rintro e wb ⟨v, rfl, hT, hb⟩
 obtain ⟨N3, nn3, nc3, A3, n3, c3, rfl, -, -, -, -, -, -⟩ := hT.shape
 replace E := hid (E.out.trans hb)
 replace HX1 := hid (HX1.out.up hb)
 replace HX2 := hid (HX2.out.up hb)
 replace HY1 := hid (HY1.out.up hb)
 replace HY2 := hid (HY2.out.up hb)
 clear hT hb u0 u1 u2 u3
 go_upto_region 11 with (fail)
 refine swp_at (fun W5 => Box W5 gy #[.int .i64 R2.op, .bool R2.g, .slice N2 nn2 nc2, str R2.name, .int .i64 R2.sort, .slice A2 n2 c2] 33 ∧ IsTm W5 R2 (kv R2.op R2.g N2 nn2 nc2 R2.name R2.sort A2 n2 c2) ∧ Box W5 gi #[.int .i64 R1.op, .bool R1.g, .slice N1 nn1 nc1, str R1.name, .int .i64 R1.sort, .slice A1 n1 c1] 33 ∧ IsTm W5 R1 (kv R1.op R1.g N1 nn1 nc1 R1.name R1.sort A1 n1 c1) ∧ Ext W W5) ⟨HY1.out.alloc _, HY2.out.up (Ext.alloc _ _), HX1.out.alloc _, HX2.out.up (Ext.alloc _ _), E.out.alloc' _⟩ ?_
 clear E HX1 HX2 HY1 HY2
 intro W5 ⟨k1, k2, k3, k4, k5⟩
 have HY1 := hid k1
 have HY2 := hid k2
 have HX1 := hid k3
 have HX2 := hid k4
 have E := hid k5
 clear k1 k2 k3 k4 k5 HTX1 HTXP HL HNM HTB HR2 HR3 HC24 HS20 HNF
 by_cases hg0 : e3 = 0
 ·subst hg0
  obtain ⟨h4, hh4⟩ : ∃ b, M.headsT s body = b := ⟨_, rfl⟩
  have HH4 := hid (show ∀ w', Ext W w' → Calls Tryz.prog 31 #[tv bl (bk, bx) B m d, str s] w' (GivesB w' h4) from fun w' e => hh4 ▸ heads_s s body (HO.out.up e))
  have HHE := hid hh4
  clear hh4
  go_upto_region 13 with (fail)
  obtain ⟨⟨y0, y1, y2, y3⟩, -, -⟩ := box4z (HB1.out.up E.out)
  go_wp2_with fail
  refine (HH4.out _ E.out).mono ?_
  rintro e wb ⟨rfl, hb⟩
  replace E := hid (E.out.trans hb)
  replace HX1 := hid (HX1.out.up hb)
  replace HX2 := hid (HX2.out.up hb)
  replace HY1 := hid (HY1.out.up hb)
  replace HY2 := hid (HY2.out.up hb)
  clear hb y0 y1 y2 y3 HH4
  cases h4
  ·have heq := HSAID.out.2 (by trivial) HHE.out
   obtain ⟨rfl, rfl⟩ : R2 = R1 ∧ e2 = e1 := by injection heq with a b; exact ⟨a.symm, b.symm⟩
   obtain ⟨⟨x0, x1, x2, x3, x4, x5⟩, -, -⟩ := box6z HX1.out
   obtain ⟨⟨y0, y1, y2, y3, y4, y5⟩, -, -⟩ := box6z HY1.out
   have HSM := hid (C.same _ HX2.out HY2.out)
   have hq2 : (e2 == e2) = true := by simp
   clear heq HSAID HX1 HX2 HY1 HY2 HHE
   go_wp2_with fail
   refine HSM.out.mono ?_
   rintro e wb ⟨rfl, hb⟩
   replace E := hid (E.out.trans hb)
   clear hb x0 x1 x2 x3 x4 x5 y0 y1 y2 y3 y4 y5
   go_wp2
   go_ret
   exact ⟨rfl, HE.out.trans E.out⟩
  ·clear HSAID
   go_wp2
   go_ret
   exact ⟨rfl, HE.out.trans E.out⟩
 ·have hq : (e3 != 0) = true := by simpa using hg0
  obtain rfl : e1 = e3 := HSAID.out.1 hg0
  have hq2 : (e1 == e1) = true := by simp
  clear hg0 HSAID
  go_wp2
  go_ret
  exact ⟨rfl, HE.out.trans E.out⟩
end Go.Proofs.YtgkofipifjfjhaaGreatDoor.Q
