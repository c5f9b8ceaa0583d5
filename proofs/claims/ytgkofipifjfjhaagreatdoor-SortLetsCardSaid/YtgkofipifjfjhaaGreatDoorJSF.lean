/-
  Layer 11, mathematics: what is said of known's few trees.
-/
import Derived.Test.YtgkofipifjfjhaaGreatDoorJSE
import Derived.Test.YtgkofipifjfjhaaGreatDoorJSD
import Derived.Test.YtgkofipifjfjhaaGreatDoorJKF
import Derived.Test.YtgkofipifjfjhaaGreatDoorJQC
namespace Go.Proofs.YtgkofipifjfjhaaGreatDoor.Q
set_option linter.unusedSimpArgs false
set_option linter.unusedVariables false
open Go.RowKit
namespace M
abbrev SY (s : List UInt8) : T := .mk false (4, s) []
abbrev NU (s : List UInt8) : T := .mk false (3, s) []
abbrev LI (ks : List T) : T := .mk true (0, []) ks
def twoT : Tm := .mk 1 false [2] [] 2 []
def kn1 : T := LI [SY [108, 101, 116], LI [LI [SY [121], NU [50]]], LI [SY [43], SY [121], SY [121]]]
def ktwos : Tm := .mk 13 false [] [] 2 [twoT, twoT]
theorem kn1_term : rTerm barred [] kn1 = (ktwos, 0) := by kernel_rfl
theorem kn2_term : rTerm barred [] (SY [122]) = (K0, 16) := by kernel_rfl
theorem kn3_term : rTerm barred [] (LI [SY [110, 111, 116], NU [50]]) = (K0, 17) := by kernel_rfl
theorem kn_tree : treeT ktwos = LI [SY [43], NU [50], NU [50]] := by kernel_rfl
theorem kn_int : sortT (SY [73, 110, 116]) = (2, 0) := by kernel_rfl
theorem kn_real : sortT (SY [82, 101, 97, 108]) = (0, 10) := by kernel_rfl
theorem kn_ite : resv [105, 116, 101] = true := by kernel_rfl
theorem kn_bang : resv [33, 51] = true := by kernel_rfl
theorem kn_x : resv [120] = false := by kernel_rfl
theorem kn_same : ksame twoT (knumT 2) = true := by kernel_rfl
theorem kn_sameT : sameT (LI [SY [43], NU [50], NU [50]]) (LI [SY [43], NU [50], NU [50]]) = true := by kernel_rfl
theorem kn_few : kfew ktwos = true := by kernel_rfl
end M
end Go.Proofs.YtgkofipifjfjhaaGreatDoor.Q

/-
  Layer 11's laws: their words sym, num, list; trees in literals' rows.
-/
namespace Go.Proofs.YtgkofipifjfjhaaGreatDoor.Q
set_option linter.unusedSimpArgs false
set_option linter.unusedVariables false
open Go.RowKit

theorem lsym_t (s : List UInt8) (w : World) : Calls Tryz.prog 29 #[str s] w fun e w' => e = .returned (tv false (4, s) none 0 0) ∧ Ext w w' := by
 have HR := hid (Box.new w zero4 26)
 go_enter Tryz.func29, Tryz.ntmps29
 obtain ⟨⟨r0, r1, r2, r3⟩, ⟨f0, f1, f2, f3⟩, hz⟩ := boxF4 HR.out
 go_wp2_with fail
 refine bodyPost_ret (v := tv false (4, s) none 0 0) (by simp [results, Tryz.results29, go_sem, r0, r1, r2, r3, hz]) rfl ?_
 exact ⟨rfl, Ext.alloc w _⟩
theorem llist_t (A : Option Addr) (n c : Nat) (w : World) : Calls Tryz.prog 28 #[.slice A n c] w fun e w' => e = .returned (tv true (0, []) A n c) ∧ Ext w w' := by
 have HR := hid (Box.new w zero4 26)
 go_enter Tryz.func28, Tryz.ntmps28
 obtain ⟨⟨r0, r1, r2, r3⟩, ⟨f0, f1, f2, f3⟩, hz⟩ := boxF4 HR.out
 go_wp2_with fail
 refine bodyPost_ret (v := tv true (0, []) A n c) (by simp [results, Tryz.results28, go_sem, r0, r1, r2, r3, hz]) rfl ?_
 exact ⟨rfl, Ext.alloc w _⟩
/-- Trees in a row of their own. -/
theorem Kids.box {w : World} {g n : Nat} {cs : Array Value} {T : TypeId} {ks : List M.T} (hb : Box w g cs T) (hr : Reps w ks cs.toList) (hn : n = ks.length) (hm : n ≤ 1000) : Kids w ks (.slice (some ⟨g, 0, none⟩) n n) := by
 refine Kids.mk_ ⟨_, _, _, rfl, hn, Nat.le_refl _, by unfold maxLen; omega, fun hne => ⟨_, rfl, hb.lt, fun k t hk => ?_⟩⟩
 obtain ⟨v', k0, k1, k2, k3, k4⟩ := hr.get hk
 have key : ∀ j u, cs.toList[j]? = some u → w.cell? ((⟨g, 0, none⟩ : Addr).add j) = some u := fun j u hu => by
  rw [Addr.add_lit, Nat.zero_add]
  exact hb.cell (by simpa using hu)
 rw [M.T.eta t]
 refine inAt_mk.2 ⟨v', ⟨key _ _ k0, ?_, ?_, ?_⟩, k4⟩
 ·rw [Addr.add_add]; exact key _ _ k1
 ·rw [Addr.add_add]; exact key _ _ k2
 ·rw [Addr.add_add]; exact key _ _ k3
theorem Reps.cons {w : World} {t : M.T} {ks : List M.T} {v : Value} {cs : List Value} (h : Kids w t.kids v) (h1 : v.oneCell' = true) (hr : Reps w ks cs) : Reps w (t :: ks) (.bool t.list :: .int .i64 t.tok.1 :: str t.tok.2 :: v :: cs) := ⟨v, cs, rfl, ⟨h, h1⟩, hr⟩
theorem Reps.nil (w : World) : Reps w [] [] := rfl
/-- A leaf ahead. -/
theorem Reps.leaf {w : World} {tk : M.Tok} {ks : List M.T} {cs : List Value} (hr : Reps w ks cs) : Reps w (.mk false tk [] :: ks) (.bool false :: .int .i64 tk.1 :: str tk.2 :: .slice none 0 0 :: cs) := Reps.cons (t := .mk false tk []) (Kids.nil w) rfl hr
/-- A list ahead. -/
theorem Reps.list {w : World} {l : List M.T} {A : Option Addr} {n c : Nat} {ks : List M.T} {cs : List Value} (h : Kids w l (.slice A n c)) (hr : Reps w ks cs) : Reps w (.mk true (0, []) l :: ks) (.bool true :: .int .i64 0 :: str [] :: .slice A n c :: cs) := Reps.cons (t := .mk true (0, []) l) h rfl hr
theorem isT_list {w : World} {l : List M.T} {A : Option Addr} {n c : Nat} (h : Kids w l (.slice A n c)) : IsT w (.mk true (0, []) l) (tv true (0, []) A n c) := by
 obtain ⟨hn, -, -⟩ := h.le
 subst hn
 exact ⟨A, c, rfl, h⟩
theorem term_said {t : M.T} {r : M.Tm × Int} (hr : M.rTerm M.barred [] t = r) (htx : M.txtN t = true) {v : Value} {w : World} (h : IsT w t v) (ht : TabS w) : Calls Tryz.prog 17 #[v, .slice none 0 0] w (GivesTmN w r) := hr ▸ Term_t t h htx (Sgs.nil w) (fun s hs => by cases hs) ht
end Go.Proofs.YtgkofipifjfjhaaGreatDoor.Q

/-
  Layer 11's laws: known.
-/
namespace Go.Proofs.YtgkofipifjfjhaaGreatDoor.Q
set_option linter.unusedSimpArgs false
set_option linter.unusedVariables false
open Go.RowKit

theorem box4k {w : World} {k : Nat} {x y z u : Value} {T : TypeId} (h : Box w k #[x, y, z, u] T) : (w.cell? ⟨k, 0, none⟩ = some x ∧ w.cell? ⟨k, 1, none⟩ = some y ∧ w.cell? ⟨k, 2, none⟩ = some z ∧ w.cell? ⟨k, 3, none⟩ = some u) ∧ True ∧ True := ⟨⟨h.k 0, h.k 1, h.k 2, h.k 3⟩, trivial, trivial⟩
set_option maxHeartbeats 40000000 in
set_option maxRecDepth 100000 in
theorem known_t {w : World} (ht : TabT w) : Calls Tryz.prog 12 #[] w (GivesB w true) := by
 have HTB := hid (fun w' (e : Ext w w') => ht.up e)
 have HBX0 := hid (Box.new w #[.bool false, .int .i64 3, str [50], .slice none 0 0] 26)
 clear ht
 go_enter Tryz.func12, Tryz.ntmps12
 go_upto_region 2 with (fail)
 refine swp_at (fun W => Box W w.heap.size #[.bool false, .int .i64 3, str [50], .slice none 0 0] 26 ∧ Ext w W) ⟨HBX0.out, Ext.alloc w _⟩ ?_
 intro W ⟨hb0, he⟩
 clear HBX0
 have HBX := hid hb0
 have E := hid he
 have HLX := hid hb0.lt
 clear hb0 he
 refine wp_region_L [(2, 0), (0, 2), (1, 2), (3, 2), (4, 2), (5, 2), (6, 2), (7, 2), (8, 2), (9, 2), (10, 2), (11, 2), (12, 2), (13, 2), (14, 2), (15, 0), (16, 0), (17, 5), (18, 3), (19, 4), (20, 5)] 33 zero6 fun wd hb => ?_
 replace E := hid (E.out.trans hb)
 have HWD := hid hb.size
 have HED := hid E.out.size
 replace HBX := hid (HBX.out.up hb)
 clear hb
 refine WE.q 17 (tv false (3, [50]) none 0 0) rfl (fun w' hk => by obtain ⟨⟨x0, x1, x2, x3⟩, -, -⟩ := box4k (HBX.out.up hk); go_simp) ?_
 simp only [Act.put, pA, pB, pC]
 refine WE.callR (d := some 15) rfl rfl (by rfl) (fun w => by go_simp) fun wa hea => ((lsym_t [108, 101, 116] wa).mono ?_)
 rintro e wb ⟨rfl, hb⟩
 refine ⟨_, rfl, hb, ?_⟩
 replace hb := hea.trans hb
 replace E := hid (E.out.trans hb)
 replace HBX := hid (HBX.out.up hb)
 clear hea hb
 simp only [Act.put, pA, pB, pC]
 refine WE.callR (d := some 16) rfl rfl (by rfl) (fun w => by go_simp) fun wa hea => ((lsym_t [121] wa).mono ?_)
 rintro e wb ⟨rfl, hb⟩
 refine ⟨_, rfl, hb, ?_⟩
 replace hb := hea.trans hb
 replace E := hid (E.out.trans hb)
 replace HBX := hid (HBX.out.up hb)
 clear hea hb
 simp only [Act.put, pA, pB, pC]
 refine WE.newR (d := some 18) (cs := #[.bool false, .int .i64 4, str [121], .slice none 0 0, .bool false, .int .i64 3, str [50], .slice none 0 0]) (t := 26) (v := fun g => .slice (some ⟨g, 0, none⟩) 2 2) rfl rfl (by rfl) (fun w => by go_simp) fun g18 wb hb hbx _ => ?_
 replace E := hid (E.out.trans hb)
 replace HBX := hid (HBX.out.up hb)
 have HKg18 := hid (Kids.box (ks := [M.SY [121], M.NU [50]]) hbx (Reps.leaf (Reps.leaf (Reps.nil _))) rfl (by decide))
 clear hb hbx
 simp only [Act.put, pA, pB, pC]
 refine WE.callR (d := some 19) rfl rfl (by rfl) (fun w => by go_simp) fun wa hea => ((llist_t (some ⟨g18, 0, none⟩) 2 2 wa).mono ?_)
 rintro e wb ⟨rfl, hb⟩
 refine ⟨_, rfl, hb, ?_⟩
 replace hb := hea.trans hb
 replace E := hid (E.out.trans hb)
 replace HBX := hid (HBX.out.up hb)
 replace HKg18 := hid (HKg18.out.up hb)
 clear hea hb
 simp only [Act.put, pA, pB, pC]
 refine WE.newR (d := some 20) (cs := #[.bool true, .int .i64 0, .string ⟨#[]⟩, .slice (some ⟨g18, 0, none⟩) 2 2]) (t := 26) (v := fun g => .slice (some ⟨g, 0, none⟩) 1 1) rfl rfl (by rfl) (fun w => by go_simp) fun g20 wb hb hbx _ => ?_
 replace E := hid (E.out.trans hb)
 replace HBX := hid (HBX.out.up hb)
 replace HKg18 := hid (HKg18.out.up hb)
 have HKg20 := hid (Kids.box (ks := [M.LI [M.SY [121], M.NU [50]]]) hbx (Reps.list HKg18.out (Reps.nil _)) rfl (by decide))
 clear hb hbx
 simp only [Act.put, pA, pB, pC]
 clear HKg18
 refine WE.callR (d := some 21) rfl rfl (by rfl) (fun w => by go_simp) fun wa hea => ((llist_t (some ⟨g20, 0, none⟩) 1 1 wa).mono ?_)
 rintro e wb ⟨rfl, hb⟩
 refine ⟨_, rfl, hb, ?_⟩
 replace hb := hea.trans hb
 replace E := hid (E.out.trans hb)
 replace HBX := hid (HBX.out.up hb)
 replace HKg20 := hid (HKg20.out.up hb)
 clear hea hb
 simp only [Act.put, pA, pB, pC]
 refine WE.callR (d := some 22) rfl rfl (by rfl) (fun w => by go_simp) fun wa hea => ((lsym_t [43] wa).mono ?_)
 rintro e wb ⟨rfl, hb⟩
 refine ⟨_, rfl, hb, ?_⟩
 replace hb := hea.trans hb
 replace E := hid (E.out.trans hb)
 replace HBX := hid (HBX.out.up hb)
 replace HKg20 := hid (HKg20.out.up hb)
 clear hea hb
 simp only [Act.put, pA, pB, pC]
 refine WE.callR (d := some 23) rfl rfl (by rfl) (fun w => by go_simp) fun wa hea => ((lsym_t [121] wa).mono ?_)
 rintro e wb ⟨rfl, hb⟩
 refine ⟨_, rfl, hb, ?_⟩
 replace hb := hea.trans hb
 replace E := hid (E.out.trans hb)
 replace HBX := hid (HBX.out.up hb)
 replace HKg20 := hid (HKg20.out.up hb)
 clear hea hb
 simp only [Act.put, pA, pB, pC]
 refine WE.callR (d := some 24) rfl rfl (by rfl) (fun w => by go_simp) fun wa hea => ((lsym_t [121] wa).mono ?_)
 rintro e wb ⟨rfl, hb⟩
 refine ⟨_, rfl, hb, ?_⟩
 replace hb := hea.trans hb
 replace E := hid (E.out.trans hb)
 replace HBX := hid (HBX.out.up hb)
 replace HKg20 := hid (HKg20.out.up hb)
 clear hea hb
 simp only [Act.put, pA, pB, pC]
 refine WE.newR (d := some 25) (cs := #[.bool false, .int .i64 4, str [43], .slice none 0 0, .bool false, .int .i64 4, str [121], .slice none 0 0, .bool false, .int .i64 4, str [121], .slice none 0 0]) (t := 26) (v := fun g => .slice (some ⟨g, 0, none⟩) 3 3) rfl rfl (by rfl) (fun w => by go_simp) fun g25 wb hb hbx _ => ?_
 replace E := hid (E.out.trans hb)
 replace HBX := hid (HBX.out.up hb)
 replace HKg20 := hid (HKg20.out.up hb)
 have HKg25 := hid (Kids.box (ks := [M.SY [43], M.SY [121], M.SY [121]]) hbx (Reps.leaf (Reps.leaf (Reps.leaf (Reps.nil _)))) rfl (by decide))
 clear hb hbx
 simp only [Act.put, pA, pB, pC]
 refine WE.callR (d := some 26) rfl rfl (by rfl) (fun w => by go_simp) fun wa hea => ((llist_t (some ⟨g25, 0, none⟩) 3 3 wa).mono ?_)
 rintro e wb ⟨rfl, hb⟩
 refine ⟨_, rfl, hb, ?_⟩
 replace hb := hea.trans hb
 replace E := hid (E.out.trans hb)
 replace HBX := hid (HBX.out.up hb)
 replace HKg20 := hid (HKg20.out.up hb)
 replace HKg25 := hid (HKg25.out.up hb)
 clear hea hb
 simp only [Act.put, pA, pB, pC]
 refine WE.newR (d := some 27) (cs := #[.bool false, .int .i64 4, str [108, 101, 116], .slice none 0 0, .bool true, .int .i64 0, .string ⟨#[]⟩, .slice (some ⟨g20, 0, none⟩) 1 1, .bool true, .int .i64 0, .string ⟨#[]⟩, .slice (some ⟨g25, 0, none⟩) 3 3]) (t := 26) (v := fun g => .slice (some ⟨g, 0, none⟩) 3 3) rfl rfl (by rfl) (fun w => by go_simp) fun g27 wb hb hbx _ => ?_
 replace E := hid (E.out.trans hb)
 replace HBX := hid (HBX.out.up hb)
 replace HKg20 := hid (HKg20.out.up hb)
 replace HKg25 := hid (HKg25.out.up hb)
 have HKg27 := hid (Kids.box (ks := [M.SY [108, 101, 116], M.LI [M.LI [M.SY [121], M.NU [50]]], M.LI [M.SY [43], M.SY [121], M.SY [121]]]) hbx (Reps.leaf (Reps.list HKg20.out (Reps.list HKg25.out (Reps.nil _)))) rfl (by decide))
 clear hb hbx
 simp only [Act.put, pA, pB, pC]
 clear HKg20
 clear HKg25
 refine WE.callR (d := some 28) rfl rfl (by rfl) (fun w => by go_simp) fun wa hea => ((llist_t (some ⟨g27, 0, none⟩) 3 3 wa).mono ?_)
 rintro e wb ⟨rfl, hb⟩
 refine ⟨_, rfl, hb, ?_⟩
 replace hb := hea.trans hb
 replace E := hid (E.out.trans hb)
 replace HBX := hid (HBX.out.up hb)
 replace HKg27 := hid (HKg27.out.up hb)
 clear hea hb
 simp only [Act.put, pA, pB, pC]
 refine WE.callR (d := some 29) rfl rfl (by rfl) (fun w => by go_simp) fun wa hea => ((term_said M.kn1_term rfl (isT_list (HKg27.out.up hea)) (HTB.out _ (E.out.trans hea)).1).mono ?_)
 rintro e wb ⟨v, rfl, hT, hb⟩
 refine ⟨_, rfl, hb, ?_⟩
 replace hT := hT.sub (gp_sub _ _)
 replace hb := hea.trans hb
 replace E := hid (E.out.trans hb)
 clear HKg27
 replace HBX := hid (HBX.out.up hb)
 obtain ⟨N1, nn1, nc1, A1, n1, c1, rfl, hn1, -, -, -, -, -⟩ := hT.shape
 replace hT : IsTm wb M.ktwos (kv 13 false N1 nn1 nc1 [] 2 A1 n1 c1) := hT
 obtain rfl : n1 = 2 := hn1
 have HT := hid hT
 clear hT hea hb
 dsimp only [M.ktwos, M.Tm.op, M.Tm.g, M.Tm.name, M.Tm.sort]
 simp only [Act.put, pA, pB, pC]
 refine WE.p 14 (.tuple #[kv 13 false N1 nn1 nc1 [] 2 A1 2 c1, .int .i64 0]) ?_
 simp only [Act.put, pA, pB, pC]
 refine WE.p 30 (kv 13 false N1 nn1 nc1 [] 2 A1 2 c1) ?_
 simp only [Act.put, pA, pB, pC]
 refine WE.y 31 (.int .i64 0) ?_
 simp only [Act.put, pA, pB, pC]
 refine WE.var (d := some 2) rfl fun gv w6 hb hbx hge hng => ?_
 replace E := hid (E.out.trans hb)
 replace HBX := hid (HBX.out.up hb)
 replace HT := hid (HT.out.up hb)
 obtain ⟨⟨z0, z1, z2, z3, z4, z5⟩, ⟨a0, a1, a2, a3, a4, a5⟩, hk6⟩ := boxF6 (show Box w6 gv zero6 33 from hbx)
 simp only [Act.put, pA, pB, pC]
 refine WE.store (w' := put6 w6 gv (.int .i64 13) (.bool false) (.slice N1 nn1 nc1) (str []) (.int .i64 2) (.slice A1 2 c1)) rfl rfl (by rfl) (by go_simp) (by simp [put6]) ?_
 refine WE.y 3 (.int .i64 0) ?_
 refine WE.done ?_
 simp only [Act.put, pA, pB, pC]
 have HG := hid (show wd.heap.size ≤ gv from hge)
 have HZ := hid (show Box w6 gv zero6 33 from hbx)
 obtain ⟨w7, hW⟩ : ∃ W, W = put6 w6 gv (.int .i64 13) (.bool false) (.slice N1 nn1 nc1) (str []) (.int .i64 2) (.slice A1 2 c1) := ⟨_, rfl⟩
 rw [← hW]
 replace E := hid (show Ext w w7 by rw [hW]; exact put6_ext E.out (Nat.le_trans HED.out HG.out))
 replace HBX := hid (show Box w7 w.heap.size #[.bool false, .int .i64 3, str [50], .slice none 0 0] 26 by rw [hW]; exact HBX.out.kept put6_kept (by have := HLX.out; have := HG.out; have := HWD.out; simp; omega))
 have HBT := hid (show Box w7 gv #[.int .i64 13, .bool false, .slice N1 nn1 nc1, str [], .int .i64 2, .slice A1 2 c1] 33 by rw [hW]; exact (((((HZ.out.setAt 0 _).setAt 1 _).setAt 2 _).setAt 3 _).setAt 4 _).setAt 5 _)
 replace HT := hid (show IsTm w7 M.ktwos (kv 13 false N1 nn1 nc1 [] 2 A1 2 c1) by rw [hW]; exact isTm_put HZ.out (by kernel_rfl) HT.out)
 have HLT := hid HBT.out.lt
 clear hW hb hbx hge hng a0 a1 a2 a3 a4 a5 hk6 z0 z1 z2 z3 z4 z5 HZ HWD HED HG
 go_wp2_with fail
 refine (lsym_t [122] _).mono ?_
 rintro e wb ⟨rfl, hb⟩
 replace E := hid (E.out.trans hb)
 replace HBX := hid (HBX.out.up hb)
 replace HT := hid (HT.out.up hb)
 replace HBT := hid (HBT.out.up hb)
 clear hb
 go_wp2_with fail
 refine (term_said M.kn2_term rfl (leaf_isT _ _) (HTB.out _ E.out).1).mono ?_
 rintro e wb ⟨v, rfl, hT, hb⟩
 obtain ⟨N2, nn2, nc2, A2, n2, c2, rfl, -, -, -, -, -, -⟩ := hT.shape
 dsimp only [M.K0, M.Tm.op, M.Tm.g, M.Tm.name, M.Tm.sort]
 replace hb := hb.trans (Ext.alloc _ (.cells #[.int .i64 0, .bool false, .slice N2 nn2 nc2, str [], .int .i64 0, .slice A2 n2 c2] 33))
 replace E := hid (E.out.trans hb)
 replace HBX := hid (HBX.out.up hb)
 replace HT := hid (HT.out.up hb)
 replace HBT := hid (HBT.out.up hb)
 clear hb hT
 go_wp2_with fail
 have HLT2 := hid HBT.out.lt
 have HLX2 := hid HBX.out.lt
 refine wp_region_L [(1, 0), (0, 2), (2, 2), (3, 2), (4, 2), (5, 0), (6, 0), (7, 5), (8, 3), (9, 4), (10, 5)] 33 zero6 fun wd hb => ?_
 replace E := hid (E.out.trans hb)
 have HWD := hid hb.size
 have HED := hid E.out.size
 replace HBX := hid (HBX.out.up hb)
 replace HT := hid (HT.out.up hb)
 replace HBT := hid (HBT.out.up hb)
 clear hb
 refine WE.q 39 (tv false (3, [50]) none 0 0) rfl (fun w' hk => by obtain ⟨⟨x0, x1, x2, x3⟩, -, -⟩ := box4k (HBX.out.up hk); go_simp) ?_
 simp only [Act.put, pA, pB, pC]
 refine WE.callR (d := some 38) rfl rfl (by rfl) (fun w => by go_simp) fun wa hea => ((lsym_t [110, 111, 116] wa).mono ?_)
 rintro e wb ⟨rfl, hb⟩
 refine ⟨_, rfl, hb, ?_⟩
 replace hb := hea.trans hb
 replace E := hid (E.out.trans hb)
 replace HBX := hid (HBX.out.up hb)
 replace HT := hid (HT.out.up hb)
 replace HBT := hid (HBT.out.up hb)
 clear hea hb
 simp only [Act.put, pA, pB, pC]
 refine WE.newR (d := some 40) (cs := #[.bool false, .int .i64 4, str [110, 111, 116], .slice none 0 0, .bool false, .int .i64 3, str [50], .slice none 0 0]) (t := 26) (v := fun g => .slice (some ⟨g, 0, none⟩) 2 2) rfl rfl (by rfl) (fun w => by go_simp) fun g40 wb hb hbx _ => ?_
 replace E := hid (E.out.trans hb)
 replace HBX := hid (HBX.out.up hb)
 replace HT := hid (HT.out.up hb)
 replace HBT := hid (HBT.out.up hb)
 have HKg40 := hid (Kids.box (ks := [M.SY [110, 111, 116], M.NU [50]]) hbx (Reps.leaf (Reps.leaf (Reps.nil _))) rfl (by decide))
 clear hb hbx
 simp only [Act.put, pA, pB, pC]
 refine WE.callR (d := some 41) rfl rfl (by rfl) (fun w => by go_simp) fun wa hea => ((llist_t (some ⟨g40, 0, none⟩) 2 2 wa).mono ?_)
 rintro e wb ⟨rfl, hb⟩
 refine ⟨_, rfl, hb, ?_⟩
 replace hb := hea.trans hb
 replace E := hid (E.out.trans hb)
 replace HBX := hid (HBX.out.up hb)
 replace HT := hid (HT.out.up hb)
 replace HBT := hid (HBT.out.up hb)
 replace HKg40 := hid (HKg40.out.up hb)
 clear hea hb
 simp only [Act.put, pA, pB, pC]
 refine WE.callR (d := some 42) rfl rfl (by rfl) (fun w => by go_simp) fun wa hea => ((term_said M.kn3_term rfl (isT_list (HKg40.out.up hea)) (HTB.out _ (E.out.trans hea)).1).mono ?_)
 rintro e wb ⟨v, rfl, hT, hb⟩
 refine ⟨_, rfl, hb, ?_⟩
 replace hb := hea.trans hb
 replace E := hid (E.out.trans hb)
 clear HKg40
 replace HBX := hid (HBX.out.up hb)
 replace HT := hid (HT.out.up hb)
 replace HBT := hid (HBT.out.up hb)
 obtain ⟨N3, nn3, nc3, A3, n3, c3, rfl, -, -, -, -, -, -⟩ := hT.shape
 clear hT hea hb
 dsimp only [M.K0, M.Tm.op, M.Tm.g, M.Tm.name, M.Tm.sort]
 simp only [Act.put, pA, pB, pC]
 refine WE.p 37 (.tuple #[kv 0 false N3 nn3 nc3 [] 0 A3 n3 c3, .int .i64 17]) ?_
 simp only [Act.put, pA, pB, pC]
 refine WE.p 43 (kv 0 false N3 nn3 nc3 [] 0 A3 n3 c3) ?_
 simp only [Act.put, pA, pB, pC]
 refine WE.y 44 (.int .i64 17) ?_
 simp only [Act.put, pA, pB, pC]
 refine WE.var (d := some 6) rfl fun gv2 w6 hb hbx hge hng => ?_
 replace E := hid (E.out.trans hb)
 replace HBX := hid (HBX.out.up hb)
 replace HT := hid (HT.out.up hb)
 replace HBT := hid (HBT.out.up hb)
 obtain ⟨⟨z0, z1, z2, z3, z4, z5⟩, ⟨a0, a1, a2, a3, a4, a5⟩, hk6⟩ := boxF6 (show Box w6 gv2 zero6 33 from hbx)
 simp only [Act.put, pA, pB, pC]
 refine WE.store (w' := put6 w6 gv2 (.int .i64 0) (.bool false) (.slice N3 nn3 nc3) (str []) (.int .i64 0) (.slice A3 n3 c3)) rfl rfl (by rfl) (by go_simp) (by simp [put6]) ?_
 refine WE.y 7 (.int .i64 17) ?_
 refine WE.done ?_
 simp only [Act.put, pA, pB, pC]
 have HG := hid (show wd.heap.size ≤ gv2 from hge)
 have HZ := hid (show Box w6 gv2 zero6 33 from hbx)
 obtain ⟨w7, hW⟩ : ∃ W, W = put6 w6 gv2 (.int .i64 0) (.bool false) (.slice N3 nn3 nc3) (str []) (.int .i64 0) (.slice A3 n3 c3) := ⟨_, rfl⟩
 rw [← hW]
 replace E := hid (show Ext w w7 by rw [hW]; exact put6_ext E.out (Nat.le_trans HED.out HG.out))
 replace HBX := hid (show Box w7 w.heap.size #[.bool false, .int .i64 3, str [50], .slice none 0 0] 26 by rw [hW]; exact HBX.out.kept put6_kept (by have h := Nat.lt_of_lt_of_le HLX2.out (Nat.le_trans HWD.out HG.out); simp; omega))
 replace HBT := hid (show Box w7 gv #[.int .i64 13, .bool false, .slice N1 nn1 nc1, str [], .int .i64 2, .slice A1 2 c1] 33 by rw [hW]; exact HBT.out.kept put6_kept (by have h := Nat.lt_of_lt_of_le HLT2.out (Nat.le_trans HWD.out HG.out); simp; omega))
 replace HT := hid (show IsTm w7 M.ktwos (kv 13 false N1 nn1 nc1 [] 2 A1 2 c1) by rw [hW]; exact isTm_put HZ.out (by kernel_rfl) HT.out)
 clear hW hb hbx hge hng a0 a1 a2 a3 a4 a5 hk6 z0 z1 z2 z3 z4 z5 HZ HWD HED HG
 go_wp2_with fail
 refine (lsym_t [73, 110, 116] _).mono ?_
 rintro e wb ⟨rfl, hb⟩
 replace E := hid (E.out.trans hb)
 replace HBX := hid (HBX.out.up hb)
 replace HT := hid (HT.out.up hb)
 replace HBT := hid (HBT.out.up hb)
 clear hb
 go_wp2_with fail
 refine (sort_t (M.SY [73, 110, 116]) (leaf_isT _ _)).mono ?_
 rw [M.kn_int]
 rintro e wb ⟨rfl, hb⟩
 replace E := hid (E.out.trans hb)
 replace HBX := hid (HBX.out.up hb)
 replace HT := hid (HT.out.up hb)
 replace HBT := hid (HBT.out.up hb)
 clear hb
 dsimp only
 go_wp2_with fail
 refine (lsym_t [82, 101, 97, 108] _).mono ?_
 rintro e wb ⟨rfl, hb⟩
 replace E := hid (E.out.trans hb)
 replace HBX := hid (HBX.out.up hb)
 replace HT := hid (HT.out.up hb)
 replace HBT := hid (HBT.out.up hb)
 clear hb
 go_wp2_with fail
 refine (sort_t (M.SY [82, 101, 97, 108]) (leaf_isT _ _)).mono ?_
 rw [M.kn_real]
 rintro e wb ⟨rfl, hb⟩
 replace E := hid (E.out.trans hb)
 replace HBX := hid (HBX.out.up hb)
 replace HT := hid (HT.out.up hb)
 replace HBT := hid (HBT.out.up hb)
 clear hb
 dsimp only
 go_wp2_with fail
 obtain ⟨ad, -, -, -, -, -, hA, -, -⟩ := HT.out.num.2.at0 (by decide)
 subst hA
 refine wp_region_D [(0, 0), (1, 0), (2, 0), (3, 0), (4, 0), (5, 0), (6, 0), (7, 0), (8, 0), (9, 0), (10, 0), (11, 0), (12, 0), (13, 0), (14, 0), (15, 0), (16, 0), (17, 0), (18, 1), (19, 1), (20, 1), (21, 0), (22, 0), (23, 0), (24, 0), (25, 0), (26, 0), (27, 0), (28, 0), (29, 0), (30, 0), (31, 0), (32, 0), (33, 0), (34, 0), (35, 0), (36, 0), (37, 0), (38, 0), (39, 0), (40, 0), (41, 0), (42, 0), (43, 1), (44, 0), (45, 0), (46, 1), (47, 0), (48, 0), (49, 1), (50, 0), (51, 0), (52, 0), (53, 0), (56, 0), (57, 0), (54, 1), (55, 1), (58, 1), (59, 1), (60, 1), (61, 0), (62, 0)] fun wd hb => ?_
 replace E := hid (E.out.trans hb)
 replace HBX := hid (HBX.out.up hb)
 replace HT := hid (HT.out.up hb)
 replace HBT := hid (HBT.out.up hb)
 clear hb
 obtain ⟨N5, nn5, nc5, B5, d5, ⟨k0, k1, k2, k3, k4, k5⟩, hv5⟩ := (HT.out.num.2).at1 (k := 1) (m := 6) rfl (by decide) (by decide)
 replace k0 : wd.cell? ⟨ad.block, ad.off + 6, none⟩ = some (.int .i64 1) := k0
 replace k1 : wd.cell? ⟨ad.block, ad.off + 6 + 1, none⟩ = some (.bool false) := k1
 replace k3 : wd.cell? ⟨ad.block, ad.off + 6 + 3, none⟩ = some (str []) := k3
 replace k4 : wd.cell? ⟨ad.block, ad.off + 6 + 4, none⟩ = some (.int .i64 2) := k4
 replace k5 : wd.cell? ⟨ad.block, ad.off + 6 + 5, none⟩ = some (.slice B5 0 d5) := k5
 replace hv5 : IsTm wd M.twoT (kv 1 false N5 nn5 nc5 [] 2 B5 0 d5) := hv5
 have HV5 := hid hv5
 have K0 := hid k0
 have K1 := hid k1
 have K2 := hid k2
 have K3 := hid k3
 have K4 := hid k4
 have K5 := hid k5
 clear k0 k1 k2 k3 k4 k5 hv5
 refine WE.p 55 (.int .i64 0) ?_
 simp only [Act.put, pA, pB, pC]
 refine WE.p 56 (.bool true) ?_
 simp only [Act.put, pA, pB, pC]
 refine WE.p 57 (.bool true) ?_
 simp only [Act.put, pA, pB, pC]
 refine WE.p 58 (.pointer (some ⟨gv, 0, none⟩)) ?_
 simp only [Act.put, pA, pB, pC]
 refine WE.q 59 (.int .i64 13) rfl (fun w' hk => by obtain ⟨⟨x0, x1, x2, x3, x4, x5⟩, -, -⟩ := boxF6 (HBT.out.up hk); go_simp) ?_
 simp only [Act.put, pA, pB, pC]
 refine WE.p 60 (.bool true) ?_
 simp only [Act.put, pA, pB, pC]
 refine WE.p 61 (.bool true) ?_
 simp only [Act.put, pA, pB, pC]
 refine WE.p 62 (.bool true) ?_
 simp only [Act.put, pA, pB, pC]
 refine WE.p 63 (.pointer (some ⟨gv, 5, none⟩)) ?_
 simp only [Act.put, pA, pB, pC]
 refine WE.q 64 (.slice (some ad) 2 c1) rfl (fun w' hk => by obtain ⟨⟨x0, x1, x2, x3, x4, x5⟩, -, -⟩ := boxF6 (HBT.out.up hk); go_simp) ?_
 simp only [Act.put, pA, pB, pC]
 refine WE.p 65 (.int .i64 2) ?_
 simp only [Act.put, pA, pB, pC]
 refine WE.p 66 (.bool true) ?_
 simp only [Act.put, pA, pB, pC]
 refine WE.p 67 (.bool true) ?_
 simp only [Act.put, pA, pB, pC]
 refine WE.p 68 (.bool true) ?_
 simp only [Act.put, pA, pB, pC]
 refine WE.p 69 (.pointer (some ⟨gv, 5, none⟩)) ?_
 simp only [Act.put, pA, pB, pC]
 refine WE.q 70 (.slice (some ad) 2 c1) rfl (fun w' hk => by obtain ⟨⟨x0, x1, x2, x3, x4, x5⟩, -, -⟩ := boxF6 (HBT.out.up hk); go_simp) ?_
 simp only [Act.put, pA, pB, pC]
 refine WE.p 71 (.pointer (some ⟨ad.block, ad.off + 6, none⟩)) ?_
 simp only [Act.put, pA, pB, pC]
 refine WE.q 72 (kv 1 false N5 nn5 nc5 [] 2 B5 0 d5) rfl (fun w' hk => by have x0 := hk.cell K0.out; have x1 := hk.cell K1.out; have x2 := hk.cell K2.out; have x3 := hk.cell K3.out; have x4 := hk.cell K4.out; have x5 := hk.cell K5.out; go_simp) ?_
 simp only [Act.put, pA, pB, pC]
 clear K0 K1 K2 K3 K4 K5
 refine WE.c 73 ((rOf_z (n := 2) (by decide) (by decide) _).mono ?_)
 rintro e wb ⟨v2, rfl, hz2, hb⟩
 refine ⟨_, rfl, hb, ?_⟩
 replace E := hid (E.out.trans hb)
 replace HBX := hid (HBX.out.up hb)
 replace HT := hid (HT.out.up hb)
 replace HBT := hid (HBT.out.up hb)
 replace HV5 := hid (HV5.out.up hb)
 clear hb
 simp only [Act.put, pA, pB, pC]
 refine WE.c 74 ((kNum_n hz2.worth).mono ?_)
 rintro e wb ⟨v3, rfl, hT3, hb⟩
 refine ⟨_, rfl, hb, ?_⟩
 replace E := hid (E.out.trans hb)
 replace HBX := hid (HBX.out.up hb)
 replace HT := hid (HT.out.up hb)
 replace HBT := hid (HBT.out.up hb)
 replace HV5 := hid (HV5.out.up hb)
 clear hb
 simp only [Act.put, pA, pB, pC]
 clear hz2
 have hsm := rkSame_n M.twoT HV5.out hT3
 rw [M.kn_same] at hsm
 clear hT3
 refine WE.c 75 ((hsm).mono ?_)
 rintro e wb ⟨rfl, hb⟩
 refine ⟨_, rfl, hb, ?_⟩
 replace E := hid (E.out.trans hb)
 replace HBX := hid (HBX.out.up hb)
 replace HT := hid (HT.out.up hb)
 replace HBT := hid (HBT.out.up hb)
 replace HV5 := hid (HV5.out.up hb)
 clear HV5 hsm
 clear hb
 simp only [Act.put, pA, pB, pC]
 refine WE.p 76 (.bool true) ?_
 simp only [Act.put, pA, pB, pC]
 refine WE.p 77 (.bool true) ?_
 simp only [Act.put, pA, pB, pC]
 refine WE.p 78 (.int .i64 16) ?_
 simp only [Act.put, pA, pB, pC]
 refine WE.p 79 (.bool true) ?_
 simp only [Act.put, pA, pB, pC]
 refine WE.p 80 (.bool true) ?_
 simp only [Act.put, pA, pB, pC]
 refine WE.p 81 (.bool true) ?_
 simp only [Act.put, pA, pB, pC]
 refine WE.p 82 (.int .i64 17) ?_
 simp only [Act.put, pA, pB, pC]
 refine WE.p 83 (.bool true) ?_
 simp only [Act.put, pA, pB, pC]
 refine WE.p 84 (.bool true) ?_
 simp only [Act.put, pA, pB, pC]
 refine WE.p 85 (.bool true) ?_
 simp only [Act.put, pA, pB, pC]
 refine WE.p 86 (.int .i64 0) ?_
 simp only [Act.put, pA, pB, pC]
 refine WE.p 87 (.bool true) ?_
 simp only [Act.put, pA, pB, pC]
 refine WE.p 88 (.bool true) ?_
 simp only [Act.put, pA, pB, pC]
 refine WE.p 89 (.bool true) ?_
 simp only [Act.put, pA, pB, pC]
 refine WE.p 90 (.int .i64 2) ?_
 simp only [Act.put, pA, pB, pC]
 refine WE.p 91 (.bool true) ?_
 simp only [Act.put, pA, pB, pC]
 refine WE.p 92 (.bool true) ?_
 simp only [Act.put, pA, pB, pC]
 refine WE.p 93 (.bool true) ?_
 simp only [Act.put, pA, pB, pC]
 refine WE.p 94 (.int .i64 10) ?_
 simp only [Act.put, pA, pB, pC]
 refine WE.p 95 (.bool true) ?_
 simp only [Act.put, pA, pB, pC]
 refine WE.p 96 (.bool true) ?_
 simp only [Act.put, pA, pB, pC]
 refine WE.p 97 (.bool true) ?_
 simp only [Act.put, pA, pB, pC]
 have hrs := reserved_t [105, 116, 101] (HTB.out _ E.out).1.2
 rw [M.kn_ite] at hrs
 refine WE.c 98 ((hrs).mono ?_)
 rintro e wb ⟨rfl, hb⟩
 refine ⟨_, rfl, hb, ?_⟩
 replace E := hid (E.out.trans hb)
 replace HBX := hid (HBX.out.up hb)
 replace HT := hid (HT.out.up hb)
 replace HBT := hid (HBT.out.up hb)
 clear hrs
 clear hb
 simp only [Act.put, pA, pB, pC]
 refine WE.p 99 (.bool true) ?_
 simp only [Act.put, pA, pB, pC]
 refine WE.p 100 (.bool true) ?_
 simp only [Act.put, pA, pB, pC]
 have hrs := reserved_t [33, 51] (HTB.out _ E.out).1.2
 rw [M.kn_bang] at hrs
 refine WE.c 101 ((hrs).mono ?_)
 rintro e wb ⟨rfl, hb⟩
 refine ⟨_, rfl, hb, ?_⟩
 replace E := hid (E.out.trans hb)
 replace HBX := hid (HBX.out.up hb)
 replace HT := hid (HT.out.up hb)
 replace HBT := hid (HBT.out.up hb)
 clear hrs
 clear hb
 simp only [Act.put, pA, pB, pC]
 refine WE.p 102 (.bool true) ?_
 simp only [Act.put, pA, pB, pC]
 refine WE.p 103 (.bool true) ?_
 simp only [Act.put, pA, pB, pC]
 have hrs := reserved_t [120] (HTB.out _ E.out).1.2
 rw [M.kn_x] at hrs
 refine WE.c 104 ((hrs).mono ?_)
 rintro e wb ⟨rfl, hb⟩
 refine ⟨_, rfl, hb, ?_⟩
 replace E := hid (E.out.trans hb)
 replace HBX := hid (HBX.out.up hb)
 replace HT := hid (HT.out.up hb)
 replace HBT := hid (HBT.out.up hb)
 clear hrs
 clear hb
 simp only [Act.put, pA, pB, pC]
 refine WE.p 105 (.bool true) ?_
 simp only [Act.put, pA, pB, pC]
 refine WE.p 106 (.bool true) ?_
 simp only [Act.put, pA, pB, pC]
 refine WE.p 107 (.bool true) ?_
 simp only [Act.put, pA, pB, pC]
 refine WE.q 108 (kv 13 false N1 nn1 nc1 [] 2 (some ad) 2 c1) rfl (fun w' hk => by obtain ⟨⟨x0, x1, x2, x3, x4, x5⟩, -, -⟩ := boxF6 (HBT.out.up hk); go_simp) ?_
 simp only [Act.put, pA, pB, pC]
 refine WE.q 111 (tv false (3, [50]) none 0 0) rfl (fun w' hk => by obtain ⟨⟨x0, x1, x2, x3⟩, -, -⟩ := box4k (HBX.out.up hk); go_simp) ?_
 simp only [Act.put, pA, pB, pC]
 refine WE.q 112 (tv false (3, [50]) none 0 0) rfl (fun w' hk => by obtain ⟨⟨x0, x1, x2, x3⟩, -, -⟩ := box4k (HBX.out.up hk); go_simp) ?_
 simp only [Act.put, pA, pB, pC]
 have htr := Tree_t HT.out M.kn_few (HTB.out _ E.out)
 rw [M.kn_tree] at htr
 refine WE.c 109 ((htr).mono ?_)
 rintro e wb ⟨v7, rfl, hv7, hb⟩
 refine ⟨_, rfl, hb, ?_⟩
 replace E := hid (E.out.trans hb)
 replace HBX := hid (HBX.out.up hb)
 replace HT := hid (HT.out.up hb)
 replace HBT := hid (HBT.out.up hb)
 clear htr
 clear hb
 simp only [Act.put, pA, pB, pC]
 obtain ⟨A7, c7, rfl, hk7⟩ := hv7
 have HV7 := hid (isT_list (hk7.sub (gp_sub _ _)))
 clear hk7
 dsimp only [M.T.list, M.T.tok, M.T.kids, List.length]
 refine WE.c 110 ((lsym_t [43] _).mono ?_)
 rintro e wb ⟨rfl, hb⟩
 refine ⟨_, rfl, hb, ?_⟩
 replace E := hid (E.out.trans hb)
 replace HBX := hid (HBX.out.up hb)
 replace HT := hid (HT.out.up hb)
 replace HBT := hid (HBT.out.up hb)
 replace HV7 := hid (HV7.out.up hb)
 clear hb
 simp only [Act.put, pA, pB, pC]
 refine WE.new (d := some 113) (cs := #[.bool false, .int .i64 4, str [43], .slice none 0 0, .bool false, .int .i64 3, str [50], .slice none 0 0, .bool false, .int .i64 3, str [50], .slice none 0 0]) (t := 26) (v := fun g => .slice (some ⟨g, 0, none⟩) 3 3) rfl rfl (by rfl) (by intro w; go_simp) fun g113 wb hb hbx _ => ?_
 replace E := hid (E.out.trans hb)
 replace HBX := hid (HBX.out.up hb)
 replace HT := hid (HT.out.up hb)
 replace HBT := hid (HBT.out.up hb)
 replace HV7 := hid (HV7.out.up hb)
 have HKg113 := hid (Kids.box (ks := [M.SY [43], M.NU [50], M.NU [50]]) hbx (Reps.leaf (Reps.leaf (Reps.leaf (Reps.nil _)))) rfl (by decide))
 clear hb hbx
 simp only [Act.put, pA, pB, pC]
 refine WE.c 114 ((llist_t (some ⟨g113, 0, none⟩) 3 3 _).mono ?_)
 rintro e wb ⟨rfl, hb⟩
 refine ⟨_, rfl, hb, ?_⟩
 replace E := hid (E.out.trans hb)
 replace HBX := hid (HBX.out.up hb)
 replace HT := hid (HT.out.up hb)
 replace HBT := hid (HBT.out.up hb)
 replace HV7 := hid (HV7.out.up hb)
 replace HKg113 := hid (HKg113.out.up hb)
 clear hb
 simp only [Act.put, pA, pB, pC]
 have hst : Calls Tryz.prog 23 #[tv true (0, []) A7 3 c7, tv true (0, []) (some ⟨g113, 0, none⟩) 3 3] wb (GivesB wb (M.sameT (M.LI [M.SY [43], M.NU [50], M.NU [50]]) (M.LI [M.SY [43], M.NU [50], M.NU [50]]))) := rSameT_n _ HV7.out (isT_list HKg113.out)
 rw [M.kn_sameT] at hst
 refine WE.c 115 ((hst).mono ?_)
 rintro e wb ⟨rfl, hb⟩
 refine ⟨_, rfl, hb, ?_⟩
 replace E := hid (E.out.trans hb)
 replace HBX := hid (HBX.out.up hb)
 replace HT := hid (HT.out.up hb)
 replace HBT := hid (HBT.out.up hb)
 replace HV7 := hid (HV7.out.up hb)
 replace HKg113 := hid (HKg113.out.up hb)
 clear hst
 clear hb
 simp only [Act.put, pA, pB, pC]
 refine WE.p 116 (.bool true) ?_
 simp only [Act.put, pA, pB, pC]
 refine WE.p 0 (.bool true) ?_
 refine WE.done ?_
 simp only [Act.put, pA, pB, pC]
 go_wp2_with fail
 go_ret
 exact ⟨rfl, E.out⟩
end Go.Proofs.YtgkofipifjfjhaaGreatDoor.Q

