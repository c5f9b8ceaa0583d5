/-
  Contracts of package term: what a node asks of itself; whether terms are such as these calls make.
-/
import Derived.Test.YtaoboilkpgphaaaDoorJTB
import Derived.Test.YtaoboilkpgphaaaDoorJTB
import Derived.Test.YtaoboilkpgphaaaDoorJTA
namespace Go.Proofs.YtaoboilkpgphaaaDoor.Q
set_option linter.unusedSimpArgs false
set_option linter.unusedVariables false
open Go.RowKit

set_option maxHeartbeats 16000000 in
set_option maxRecDepth 100000 in
theorem fits_n {t : M.Tm} {v : Value} {w : World} (h : IsTm w t v) (htab : Tab w) (hlen : t.kids.length ≤ 1000000) (hnl : t.name.length ≤ 1000000000000) : Calls Tryd.prog 68 #[v] w (GivesB w (M.fitsM t.op t.g t.ls t.name t.sort t.kids)) := by
 have hh := h
 obtain ⟨op, g, ls, nm, so, ks⟩ := t
 obtain ⟨N, nn, nc, A, c, rfl, hn, hk⟩ := h
 replace hk : Tms w ks (.slice A ks.length c) := hk
 replace hn : LNum w (.slice N nn nc) ls := hn
 replace hlen : ks.length ≤ 1000000 := hlen
 replace hnl : nm.length ≤ 1000000000000 := hnl
 show Calls Tryd.prog 68 #[kv op g N nn nc nm so A ks.length c] w (GivesB w (M.fitsM op g ls nm so ks))
 replace hh : IsTm w (.mk op g ls nm so ks) (kv op g N nn nc nm so A ks.length c) := hh
 obtain ⟨hl1, hl2, hl3⟩ := hk.le
 have HI := hid (show ∀ w', Ext w w' → Calls Tryd.prog 55 #[.agg #[.bool g, .slice N nn nc]] w' (GivesB w' (M.isZ g ls)) from fun w' e => wIs_any (hn.up e) rfl)
 have HH := hid (show ∀ (op' : Int) (g' : Bool) (N' : Option Addr) (nn' nc' : Nat) (nm' : List UInt8) (so' : Int) (ls' : List Nat) w', Ext w w' → LNum w' (.slice N' nn' nc') ls' → Calls Tryd.prog 38 #[kv op g N nn nc nm so A ks.length c, kv op' g' N' nn' nc' nm' so' none 0 0] w' (GivesB w' (decide (op = op') && (decide (g = g' ∧ ls = ls') && (decide (nm = nm') && decide (so = so'))))) from fun op' g' N' nn' nc' nm' so' ls' w' e hl => sameHead_n (hn.up e) hl)
 have HG := hid (show ∀ w', Ext w w' → Calls Tryd.prog 67 #[kv op g N nn nc nm so A ks.length c] w' (GivesSg w' ⟨nm, ks.map M.Tm.sort, so⟩) from fun w' e => sig_n (hh.up e) hlen hnl)
 have HC := hid (show ∀ a b c1 d e1 w', Calls Tryd.prog 43 #[rv a b c1 d e1, .slice A ks.length c] w' (GivesB w' (decide (a ≤ (ks.length : Int)) && decide ((ks.length : Int) ≤ b))) from fun a b c1 d e1 w' => counts_n a b c1 d e1 A ks.length c w')
 have HS := hid (show 0 < ks.length → ∀ a b c1 d e1 w', Ext w w' → Calls Tryd.prog 45 #[rv a b c1 d e1, .slice A ks.length c] w' (GivesB w' (decide ((M.kat ks 0).sort = M.meantM c1 ks) && ks.tail.all fun t => decide (t.sort = M.meantM d ks))) from fun hp a b c1 d e1 w' e => sorted_n a b c1 d e1 (hk.up e) hp)
 have HO := hid (show 0 < ks.length → ∀ a b c1 d e1 w', Ext w w' → Calls Tryd.prog 48 #[rv a b c1 d e1, .slice A ks.length c] w' (GivesN w' (M.meantM e1 ks)) from fun hp a b c1 d e1 w' e => own_n a b c1 d e1 (hk.up e) hp)
 have HL := hid (show 5 ≤ op ∧ op ≤ 22 → M.kargs op ks.length = true → ∀ w', Ext w w' → Calls Tryd.prog 46 #[.int .i64 op, .slice A ks.length c] w' (GivesN w' (M.klin op ks)) from fun h1 h2 w' e => linear_n h1 (hk.up e) h2)
 have HN := hid hn
 have HNL := hid hnl
 have HT := hid htab
 obtain ⟨z, hz⟩ : ∃ z, M.fitsM op g ls nm so ks = z := ⟨_, rfl⟩
 rw [hz]
 unfold M.fitsM at hz
 have hlm := hl3
 obtain ⟨n, hn'⟩ : ∃ n, ks.length = n := ⟨_, rfl⟩
 have hmp : (ks.map M.Tm.sort).length = n := by rw [List.length_map, hn']
 rw [hn'] at HH HG HC HS HO HL hz hl2 ⊢
 have HB := hid (Box.new w #[.int .i64 op, .bool g, .slice N nn nc, str nm, .int .i64 so, .slice A n c] 27)
 have E := hid (Ext.refl (kboxed w op g N nn nc nm so A n c))
 clear hh hk hn hlen hnl hl1 htab
 rcases (show op = 1 ∨ (op = 2 ∨ op = 3) ∨ op = 4 ∨ (op ≠ 1 ∧ op ≠ 2 ∧ op ≠ 3 ∧ op ≠ 4) by omega) with hop | hop | hop | ⟨ho1, ho2, ho3, ho4⟩
 ·subst hop
  rw [if_pos rfl] at hz
  obtain ⟨q, hq⟩ : ∃ q, M.isZ g ls = q := ⟨_, rfl⟩
  rw [hq] at HI hz
  clear hq HG HC HS HO HL HT
  cases q
  ·have HZ := hid (show false = z by rw [← hz]; rfl)
   clear hz
   go_enter Tryd.func68, Tryd.ntmps68
   go_wp2_with fail
   refine (HI.out _ ((Ext.alloc w _).trans E.out)).mono ?_
   rintro e w' ⟨rfl, hx⟩
   replace E := hid (E.out.trans hx)
   obtain ⟨⟨b0, b1, b2, b3, b4, b5⟩, -, -⟩ := boxF6 (HB.out.up E.out)
   clear hx
   go_wp2_with fail
   go_ret
   obtain rfl : false = z := HZ.out
   exact ⟨rfl, (Ext.alloc w _).trans E.out⟩
  rw [Bool.true_and] at hz
  by_cases hn0 : n = 0
  case neg =>
   have hq : ((n : Int) == 0) = false := by simp; omega
   have HZ := hid (show false = z by rw [← hz, decide_eq_false hn0]; rfl)
   clear hz hn0
   go_enter Tryd.func68, Tryd.ntmps68
   go_wp2_with fail
   refine (HI.out _ ((Ext.alloc w _).trans E.out)).mono ?_
   rintro e w' ⟨rfl, hx⟩
   replace E := hid (E.out.trans hx)
   obtain ⟨⟨b0, b1, b2, b3, b4, b5⟩, -, -⟩ := boxF6 (HB.out.up E.out)
   clear hx
   go_wp2_with fail
   go_ret
   obtain rfl : false = z := HZ.out
   exact ⟨rfl, (Ext.alloc w _).trans E.out⟩
  case pos =>
   subst hn0
   rw [decide_eq_true rfl, Bool.true_and] at hz
   have HH1 := hid (show ∀ w', Ext w w' → Calls Tryd.prog 38 #[kv 1 g N nn nc nm so A 0 c, kv 1 g N nn nc [] 2 none 0 0] w' (GivesB w' z) from fun w' e => by
    have := HH.out 1 g N nn nc [] 2 ls w' e (HN.out.up e)
    rw [show (decide ((1 : Int) = 1) && (decide (g = g ∧ ls = ls) && (decide (nm = []) && decide (so = 2)))) = z by rw [← hz]; simp] at this
    exact this)
   clear hz HH HN
   go_enter Tryd.func68, Tryd.ntmps68
   go_wp2_with fail
   refine (HI.out _ ((Ext.alloc w _).trans E.out)).mono ?_
   rintro e w' ⟨rfl, hx⟩
   replace E := hid (E.out.trans hx)
   obtain ⟨⟨b0, b1, b2, b3, b4, b5⟩, -, -⟩ := boxF6 (HB.out.up E.out)
   clear hx
   go_wp2_with fail
   refine (HH1.out _ ((Ext.alloc w _).trans E.out)).mono ?_
   rintro e w' ⟨rfl, hx⟩
   replace E := hid (E.out.trans hx)
   obtain ⟨⟨b0, b1, b2, b3, b4, b5⟩, -, -⟩ := boxF6 (HB.out.up E.out)
   clear hx
   go_wp2_with fail
   go_ret
   exact ⟨rfl, (Ext.alloc w _).trans E.out⟩
 ·have hz2 : (decide (n = 0) && (decide (g = false ∧ ls = []) && (decide (nm = []) && decide (so = 1)))) = z := by rw [← hz, if_neg (by omega), if_pos hop]
  clear hz HG HC HS HO HL HT HI
  by_cases hn0 : n = 0
  case neg =>
   have hq : ((n : Int) == 0) = false := by simp; omega
   have HZ := hid (show false = z by rw [← hz2, decide_eq_false hn0]; rfl)
   clear hz2 hn0 HH HN
   rcases hop with rfl | rfl
   all_goals
    go_enter Tryd.func68, Tryd.ntmps68
    go_wp2_with fail
    go_ret
    obtain rfl : false = z := HZ.out
    exact ⟨rfl, (Ext.alloc w _).trans E.out⟩
  case pos =>
   subst hn0
   rw [decide_eq_true rfl, Bool.true_and] at hz2
   have HH1 := hid (show ∀ w', Ext w w' → Calls Tryd.prog 38 #[kv op g N nn nc nm so A 0 c, kv op false none 0 0 [] 1 none 0 0] w' (GivesB w' z) from fun w' e => by
    have := HH.out op false none 0 0 [] 1 [] w' e (LNum.nil _)
    rw [decide_eq_true (rfl : op = op), Bool.true_and, hz2] at this
    exact this)
   clear hz2 HH HN
   rcases hop with rfl | rfl
   all_goals
    go_enter Tryd.func68, Tryd.ntmps68
    go_wp2_with fail
    refine (HH1.out _ ((Ext.alloc w _).trans E.out)).mono ?_
    rintro e w' ⟨rfl, hx⟩
    replace E := hid (E.out.trans hx)
    obtain ⟨⟨b0, b1, b2, b3, b4, b5⟩, -, -⟩ := boxF6 (HB.out.up E.out)
    clear hx
    go_wp2_with fail
    go_ret
    exact ⟨rfl, (Ext.alloc w _).trans E.out⟩
 ·subst hop
  have hz2 : (M.ksig ⟨nm, ks.map M.Tm.sort, so⟩ && decide (g = false ∧ ls = [])) = z := by rw [← hz, if_neg (by omega), if_neg (by omega), if_pos rfl]
  clear hz HC HS HO HL HT HI
  have hnl9 := HNL.out
  obtain ⟨sgm, hsgm⟩ : ∃ s : M.Sg, (⟨nm, ks.map M.Tm.sort, so⟩ : M.Sg) = s := ⟨_, rfl⟩
  have hsl : sgm.args.length = n := by rw [← hsgm]; exact hmp
  have hsn : sgm.name.length ≤ 1000000000000 := by rw [← hsgm]; exact hnl9
  have hsn2 : sgm.name = nm := by rw [← hsgm]
  have hsr : sgm.ret = so := by rw [← hsgm]
  rw [hsgm] at HG hz2
  have HG2 := hid (show ∀ w', Ext w w' → Calls Tryd.prog 67 #[kv 4 g N nn nc nm so A n c] w' (fun e w'' => ∃ IA ic, e = .returned (sgv nm IA n ic so) ∧ IsSg w'' sgm (sgv nm IA n ic so) ∧ Ext w' w'') from fun w' e => (HG.out w' e).mono fun e w'' ⟨IA, ic, h1, h2, h3⟩ => by
   rw [hsn2, hsr, hsl] at h1
   rw [hsl] at h2
   exact ⟨IA, ic, h1, ⟨IA, ic, by rw [hsn2, hsr, hsl], by rw [hsl]; exact h2⟩, h3⟩)
  obtain ⟨q, hq⟩ : ∃ q, M.ksig sgm = q := ⟨_, rfl⟩
  have HIS := hid (show ∀ w' IA ic, IsSg w' sgm (sgv nm IA n ic so) → Calls Tryd.prog 29 #[sgv nm IA n ic so] w' (GivesB w' q) from fun w' IA ic h => by
   have := isSig_t h hsn
   rwa [hq] at this)
  rw [hq] at hz2
  clear HG hq hsl hsn hsn2 hsr hsgm hmp hnl9
  cases q
  ·have HZ := hid (show false = z by rw [← hz2]; rfl)
   clear hz2 HH HN
   go_enter Tryd.func68, Tryd.ntmps68
   go_wp2_with fail
   refine (HG2.out _ ((Ext.alloc w _).trans E.out)).mono ?_
   rintro e w1 ⟨IA, ic, rfl, hs, hx⟩
   have HS := hid hs
   replace E := hid (E.out.trans hx)
   clear hx hs
   go_wp2_with fail
   refine (HIS.out _ _ _ HS.out).mono ?_
   rintro e w2 ⟨rfl, hx⟩
   replace E := hid (E.out.trans hx)
   obtain ⟨⟨b0, b1, b2, b3, b4, b5⟩, -, -⟩ := boxF6 (HB.out.up E.out)
   clear hx
   go_wp2_with fail
   go_ret
   obtain rfl : false = z := HZ.out
   exact ⟨rfl, (Ext.alloc w _).trans E.out⟩
  ·have HH1 := hid (show ∀ w', Ext w w' → Calls Tryd.prog 38 #[kv 4 g N nn nc nm so A n c, kv 4 false none 0 0 nm so none 0 0] w' (GivesB w' z) from fun w' e => by
    have := HH.out 4 false none 0 0 nm so [] w' e (LNum.nil _)
    rw [show (decide ((4 : Int) = 4) && (decide (g = false ∧ ls = []) && (decide (nm = nm) && decide (so = so)))) = z by rw [← hz2]; simp] at this
    exact this)
   clear hz2 HH HN
   go_enter Tryd.func68, Tryd.ntmps68
   go_wp2_with fail
   refine (HG2.out _ ((Ext.alloc w _).trans E.out)).mono ?_
   rintro e w1 ⟨IA, ic, rfl, hs, hx⟩
   have HS := hid hs
   replace E := hid (E.out.trans hx)
   clear hx hs
   go_wp2_with fail
   refine (HIS.out _ _ _ HS.out).mono ?_
   rintro e w2 ⟨rfl, hx⟩
   replace E := hid (E.out.trans hx)
   obtain ⟨⟨b0, b1, b2, b3, b4, b5⟩, -, -⟩ := boxF6 (HB.out.up E.out)
   clear hx
   go_wp2_with fail
   refine (HH1.out _ ((Ext.alloc w _).trans E.out)).mono ?_
   rintro e w' ⟨rfl, hx⟩
   replace E := hid (E.out.trans hx)
   obtain ⟨⟨b0, b1, b2, b3, b4, b5⟩, -, -⟩ := boxF6 (HB.out.up E.out)
   clear hx
   go_wp2_with fail
   go_ret
   exact ⟨rfl, (Ext.alloc w _).trans E.out⟩
 ·have q1 : (op == 1) = false := by simpa using ho1
  have q2 : (op == 2) = false := by simpa using ho2
  have q3 : (op == 3) = false := by simpa using ho3
  have q4 : (op == 4) = false := by simpa using ho4
  rw [if_neg ho1, if_neg (by omega), if_neg ho4] at hz
  have HR := hid (fun w' => ruled_n op w')
  clear HG HI HN
  by_cases hop : 5 ≤ op ∧ op ≤ 22
  case neg =>
   rw [decide_eq_false hop] at HR hz
   have HZ := hid (show false = z by rw [← hz]; rfl)
   clear hz hop HC HS HO HL HT HH ho1 ho2 ho3 ho4
   go_enter Tryd.func68, Tryd.ntmps68
   go_wp2_with fail
   refine wp_region_D [(0, 0), (1, 0), (2, 1), (3, 0), (4, 0), (5, 0), (6, 0), (7, 0), (8, 0), (9, 0), (10, 1), (11, 0), (12, 0), (13, 0), (14, 0), (15, 0), (16, 0), (17, 0), (18, 0), (19, 1), (20, 0), (21, 0), (22, 0), (23, 0), (24, 0), (25, 0), (26, 1), (27, 0), (28, 0), (29, 0), (30, 0), (31, 0), (32, 0), (33, 0), (34, 0), (35, 0), (36, 0), (37, 0), (38, 0), (39, 1), (40, 0), (41, 1), (42, 0), (43, 0)] fun wd hb => ?_
   replace E := hid (E.out.trans hb)
   clear hb
   refine WE.p 55 (.pointer (some ⟨w.heap.size, 0, none⟩)) ?_
   simp only [Act.put, pA, pB, pC]
   refine WE.q 56 (.int .i64 op) rfl (fun w' hk => by have ce := (HB.out.up (E.out.trans hk)).k 0; go_simp) ?_
   simp only [Act.put, pA, pB, pC]
   refine WE.c 57 ((HR.out _).mono ?_)
   rintro e w6 ⟨rfl, hb6⟩
   refine ⟨_, rfl, hb6, ?_⟩
   replace E := hid (E.out.trans hb6)
   clear hb6
   simp only [Act.put, pA, pB, pC]
   refine WE.p 58 (.bool false) ?_
   simp only [Act.put, pA, pB, pC]
   refine WE.s 59 ?_
   simp only [Act.put, pA, pB, pC]
   refine WE.s 60 ?_
   simp only [Act.put, pA, pB, pC]
   refine WE.s 61 ?_
   simp only [Act.put, pA, pB, pC]
   refine WE.s 62 ?_
   simp only [Act.put, pA, pB, pC]
   refine WE.s 63 ?_
   simp only [Act.put, pA, pB, pC]
   refine WE.s 64 ?_
   simp only [Act.put, pA, pB, pC]
   refine WE.t 65 ?_
   simp only [Act.put, pA, pB, pC]
   refine WE.p 66 (.bool false) ?_
   simp only [Act.put, pA, pB, pC]
   refine WE.p 67 (.bool false) ?_
   simp only [Act.put, pA, pB, pC]
   refine WE.s 68 ?_
   simp only [Act.put, pA, pB, pC]
   refine WE.s 69 ?_
   simp only [Act.put, pA, pB, pC]
   refine WE.s 70 ?_
   simp only [Act.put, pA, pB, pC]
   refine WE.s 71 ?_
   simp only [Act.put, pA, pB, pC]
   refine WE.s 72 ?_
   simp only [Act.put, pA, pB, pC]
   refine WE.s 73 ?_
   simp only [Act.put, pA, pB, pC]
   refine WE.t 74 ?_
   simp only [Act.put, pA, pB, pC]
   refine WE.p 75 (.bool false) ?_
   simp only [Act.put, pA, pB, pC]
   refine WE.p 76 (.bool false) ?_
   simp only [Act.put, pA, pB, pC]
   refine WE.s 77 ?_
   simp only [Act.put, pA, pB, pC]
   refine WE.s 78 ?_
   simp only [Act.put, pA, pB, pC]
   refine WE.s 79 ?_
   simp only [Act.put, pA, pB, pC]
   refine WE.s 80 ?_
   simp only [Act.put, pA, pB, pC]
   refine WE.t 81 ?_
   simp only [Act.put, pA, pB, pC]
   refine WE.s 82 ?_
   simp only [Act.put, pA, pB, pC]
   refine WE.p 83 (.bool false) ?_
   simp only [Act.put, pA, pB, pC]
   refine WE.p 84 (.bool false) ?_
   simp only [Act.put, pA, pB, pC]
   refine WE.s 85 ?_
   simp only [Act.put, pA, pB, pC]
   refine WE.s 86 ?_
   simp only [Act.put, pA, pB, pC]
   refine WE.s 87 ?_
   simp only [Act.put, pA, pB, pC]
   refine WE.s 88 ?_
   simp only [Act.put, pA, pB, pC]
   refine WE.s 89 ?_
   simp only [Act.put, pA, pB, pC]
   refine WE.s 90 ?_
   simp only [Act.put, pA, pB, pC]
   refine WE.s 91 ?_
   simp only [Act.put, pA, pB, pC]
   refine WE.s 92 ?_
   simp only [Act.put, pA, pB, pC]
   refine WE.s 93 ?_
   simp only [Act.put, pA, pB, pC]
   refine WE.t 94 ?_
   simp only [Act.put, pA, pB, pC]
   refine WE.s 95 ?_
   simp only [Act.put, pA, pB, pC]
   refine WE.t 96 ?_
   simp only [Act.put, pA, pB, pC]
   refine WE.p 97 (.bool false) ?_
   simp only [Act.put, pA, pB, pC]
   refine WE.p 2 (.bool false) ?_
   simp only [Act.put, pA, pB, pC]
   refine WE.done ?_
   go_wp2_with fail
   go_ret
   obtain rfl : false = z := HZ.out
   exact ⟨rfl, (Ext.alloc w _).trans E.out⟩
  case pos =>
   rw [decide_eq_true hop] at HR
   rw [decide_eq_true hop, Bool.true_and] at hz
   obtain ⟨j, hj⟩ : ∃ j : Nat, op = (j : Int) := ⟨op.toNat, by omega⟩
   obtain ⟨r0, hr0⟩ : ∃ r, M.rl op 0 = r := ⟨_, rfl⟩
   obtain ⟨r1, hr1⟩ : ∃ r, M.rl op 1 = r := ⟨_, rfl⟩
   obtain ⟨r2, hr2⟩ : ∃ r, M.rl op 2 = r := ⟨_, rfl⟩
   obtain ⟨r3, hr3⟩ : ∃ r, M.rl op 3 = r := ⟨_, rfl⟩
   obtain ⟨r4, hr4⟩ : ∃ r, M.rl op 4 = r := ⟨_, rfl⟩
   have RT := hid (show ∀ w', Ext (kboxed w op g N nn nc nm so A n c) w' → w'.cell? ⟨0, j * 5, none⟩ = some (.int .i64 r0) ∧ w'.cell? ⟨0, j * 5 + 1, none⟩ = some (.int .i64 r1) ∧ w'.cell? ⟨0, j * 5 + 2, none⟩ = some (.int .i64 r2) ∧ w'.cell? ⟨0, j * 5 + 3, none⟩ = some (.int .i64 r3) ∧ w'.cell? ⟨0, j * 5 + 4, none⟩ = some (.int .i64 r4) from fun w' e => by
    rw [← hr0, ← hr1, ← hr2, ← hr3, ← hr4]
    exact (HT.out.up ((Ext.alloc w _).trans e)).five hop (by omega))
   obtain ⟨qa, hqa⟩ : ∃ q, M.kargs op n = q := ⟨_, rfl⟩
   have HCC := hid (show ∀ w', Calls Tryd.prog 43 #[rv r0 r1 r2 r3 r4, .slice A n c] w' (GivesB w' qa) from fun w' => by
    have h1 := HC.out r0 r1 r2 r3 r4 w'
    have h2 := M.counts_eq hop (show n ≤ 9223372036854775807 by omega)
    rw [hr0, hr1, hqa] at h2
    rwa [h2] at h1)
   rw [hqa] at hz
   have hjlt : (j : Int) < 23 := by omega
   have hjlt2 : j < 23 := by omega
   have hj5 : 5 ≤ j := by omega
   cases qa
   ·have HZ := hid (show false = z by rw [← hz]; rfl)
    subst hj
    clear hz hop HC HS HO HL HT HH ho1 ho2 ho3 ho4 hqa hr0 hr1 hr2 hr3 hr4 hmp
    go_enter Tryd.func68, Tryd.ntmps68
    go_wp2_with fail
    refine wp_region_D [(0, 0), (1, 0), (2, 1), (3, 0), (4, 0), (5, 0), (6, 0), (7, 0), (8, 0), (9, 0), (10, 1), (11, 0), (12, 0), (13, 0), (14, 0), (15, 0), (16, 0), (17, 0), (18, 0), (19, 1), (20, 0), (21, 0), (22, 0), (23, 0), (24, 0), (25, 0), (26, 1), (27, 0), (28, 0), (29, 0), (30, 0), (31, 0), (32, 0), (33, 0), (34, 0), (35, 0), (36, 0), (37, 0), (38, 0), (39, 1), (40, 0), (41, 1), (42, 0), (43, 0)] fun wd hb => ?_
    replace E := hid (E.out.trans hb)
    clear hb
    refine WE.p 55 (.pointer (some ⟨w.heap.size, 0, none⟩)) ?_
    simp only [Act.put, pA, pB, pC]
    refine WE.q 56 (.int .i64 (j : Int)) rfl (fun w' hk => by have ce := (HB.out.up (E.out.trans hk)).k 0; go_simp) ?_
    simp only [Act.put, pA, pB, pC]
    refine WE.c 57 ((HR.out _).mono ?_)
    rintro e w6 ⟨rfl, hb6⟩
    refine ⟨_, rfl, hb6, ?_⟩
    replace E := hid (E.out.trans hb6)
    clear hb6
    simp only [Act.put, pA, pB, pC]
    refine WE.p 58 (.bool true) ?_
    simp only [Act.put, pA, pB, pC]
    refine WE.p 59 (.pointer (some ⟨w.heap.size, 0, none⟩)) ?_
    simp only [Act.put, pA, pB, pC]
    refine WE.q 60 (.int .i64 (j : Int)) rfl (fun w' hk => by have ce := (HB.out.up (E.out.trans hk)).k 0; go_simp) ?_
    simp only [Act.put, pA, pB, pC]
    refine WE.p 61 (.pointer (some ⟨0, j * 5, none⟩)) ?_
    simp only [Act.put, pA, pB, pC]
    refine WE.q 62 (rv r0 r1 r2 r3 r4) rfl (fun w' hk => by obtain ⟨q0, q1, q2, q3, q4⟩ := RT.out _ (E.out.trans hk); go_simp) ?_
    simp only [Act.put, pA, pB, pC]
    refine WE.p 63 (.pointer (some ⟨w.heap.size, 5, none⟩)) ?_
    simp only [Act.put, pA, pB, pC]
    refine WE.q 64 (.slice A n c) rfl (fun w' hk => by have ce := (HB.out.up (E.out.trans hk)).k 5; go_simp) ?_
    simp only [Act.put, pA, pB, pC]
    refine WE.c 65 ((HCC.out _).mono ?_)
    rintro e w6 ⟨rfl, hb6⟩
    refine ⟨_, rfl, hb6, ?_⟩
    replace E := hid (E.out.trans hb6)
    clear hb6
    simp only [Act.put, pA, pB, pC]
    refine WE.p 66 (.bool false) ?_
    simp only [Act.put, pA, pB, pC]
    refine WE.p 67 (.bool false) ?_
    simp only [Act.put, pA, pB, pC]
    refine WE.s 68 ?_
    simp only [Act.put, pA, pB, pC]
    refine WE.s 69 ?_
    simp only [Act.put, pA, pB, pC]
    refine WE.s 70 ?_
    simp only [Act.put, pA, pB, pC]
    refine WE.s 71 ?_
    simp only [Act.put, pA, pB, pC]
    refine WE.s 72 ?_
    simp only [Act.put, pA, pB, pC]
    refine WE.s 73 ?_
    simp only [Act.put, pA, pB, pC]
    refine WE.t 74 ?_
    simp only [Act.put, pA, pB, pC]
    refine WE.p 75 (.bool false) ?_
    simp only [Act.put, pA, pB, pC]
    refine WE.p 76 (.bool false) ?_
    simp only [Act.put, pA, pB, pC]
    refine WE.s 77 ?_
    simp only [Act.put, pA, pB, pC]
    refine WE.s 78 ?_
    simp only [Act.put, pA, pB, pC]
    refine WE.s 79 ?_
    simp only [Act.put, pA, pB, pC]
    refine WE.s 80 ?_
    simp only [Act.put, pA, pB, pC]
    refine WE.t 81 ?_
    simp only [Act.put, pA, pB, pC]
    refine WE.s 82 ?_
    simp only [Act.put, pA, pB, pC]
    refine WE.p 83 (.bool false) ?_
    simp only [Act.put, pA, pB, pC]
    refine WE.p 84 (.bool false) ?_
    simp only [Act.put, pA, pB, pC]
    refine WE.s 85 ?_
    simp only [Act.put, pA, pB, pC]
    refine WE.s 86 ?_
    simp only [Act.put, pA, pB, pC]
    refine WE.s 87 ?_
    simp only [Act.put, pA, pB, pC]
    refine WE.s 88 ?_
    simp only [Act.put, pA, pB, pC]
    refine WE.s 89 ?_
    simp only [Act.put, pA, pB, pC]
    refine WE.s 90 ?_
    simp only [Act.put, pA, pB, pC]
    refine WE.s 91 ?_
    simp only [Act.put, pA, pB, pC]
    refine WE.s 92 ?_
    simp only [Act.put, pA, pB, pC]
    refine WE.s 93 ?_
    simp only [Act.put, pA, pB, pC]
    refine WE.t 94 ?_
    simp only [Act.put, pA, pB, pC]
    refine WE.s 95 ?_
    simp only [Act.put, pA, pB, pC]
    refine WE.t 96 ?_
    simp only [Act.put, pA, pB, pC]
    refine WE.p 97 (.bool false) ?_
    simp only [Act.put, pA, pB, pC]
    refine WE.p 2 (.bool false) ?_
    simp only [Act.put, pA, pB, pC]
    refine WE.done ?_
    go_wp2_with fail
    go_ret
    obtain rfl : false = z := HZ.out
    exact ⟨rfl, (Ext.alloc w _).trans E.out⟩
   rw [Bool.true_and] at hz
   obtain ⟨hnp, -, -⟩ := kargs_len hqa
   obtain ⟨qs, hqs⟩ : ∃ q, M.ksorted op ks = q := ⟨_, rfl⟩
   have HSS := hid (show ∀ w', Ext w w' → Calls Tryd.prog 45 #[rv r0 r1 r2 r3 r4, .slice A n c] w' (GivesB w' qs) from fun w' e => by
    have h1 := HS.out (by omega) r0 r1 r2 r3 r4 w' e
    have h2 := M.sorted_eq hop (l := ks) (by rw [hn']; exact hqa)
    unfold M.rsorted at h2
    rw [hr2, hr3, hqs] at h2
    rwa [h2] at h1)
   rw [hqs] at hz
   cases qs
   ·have HZ := hid (show false = z by rw [← hz]; rfl)
    subst hj
    clear hz hop HC HS HO HL HT HH ho1 ho2 ho3 ho4 hqa hqs hr0 hr1 hr2 hr3 hr4 hmp
    go_enter Tryd.func68, Tryd.ntmps68
    go_wp2_with fail
    refine wp_region_D [(0, 0), (1, 0), (2, 1), (3, 0), (4, 0), (5, 0), (6, 0), (7, 0), (8, 0), (9, 0), (10, 1), (11, 0), (12, 0), (13, 0), (14, 0), (15, 0), (16, 0), (17, 0), (18, 0), (19, 1), (20, 0), (21, 0), (22, 0), (23, 0), (24, 0), (25, 0), (26, 1), (27, 0), (28, 0), (29, 0), (30, 0), (31, 0), (32, 0), (33, 0), (34, 0), (35, 0), (36, 0), (37, 0), (38, 0), (39, 1), (40, 0), (41, 1), (42, 0), (43, 0)] fun wd hb => ?_
    replace E := hid (E.out.trans hb)
    clear hb
    refine WE.p 55 (.pointer (some ⟨w.heap.size, 0, none⟩)) ?_
    simp only [Act.put, pA, pB, pC]
    refine WE.q 56 (.int .i64 (j : Int)) rfl (fun w' hk => by have ce := (HB.out.up (E.out.trans hk)).k 0; go_simp) ?_
    simp only [Act.put, pA, pB, pC]
    refine WE.c 57 ((HR.out _).mono ?_)
    rintro e w6 ⟨rfl, hb6⟩
    refine ⟨_, rfl, hb6, ?_⟩
    replace E := hid (E.out.trans hb6)
    clear hb6
    simp only [Act.put, pA, pB, pC]
    refine WE.p 58 (.bool true) ?_
    simp only [Act.put, pA, pB, pC]
    refine WE.p 59 (.pointer (some ⟨w.heap.size, 0, none⟩)) ?_
    simp only [Act.put, pA, pB, pC]
    refine WE.q 60 (.int .i64 (j : Int)) rfl (fun w' hk => by have ce := (HB.out.up (E.out.trans hk)).k 0; go_simp) ?_
    simp only [Act.put, pA, pB, pC]
    refine WE.p 61 (.pointer (some ⟨0, j * 5, none⟩)) ?_
    simp only [Act.put, pA, pB, pC]
    refine WE.q 62 (rv r0 r1 r2 r3 r4) rfl (fun w' hk => by obtain ⟨q0, q1, q2, q3, q4⟩ := RT.out _ (E.out.trans hk); go_simp) ?_
    simp only [Act.put, pA, pB, pC]
    refine WE.p 63 (.pointer (some ⟨w.heap.size, 5, none⟩)) ?_
    simp only [Act.put, pA, pB, pC]
    refine WE.q 64 (.slice A n c) rfl (fun w' hk => by have ce := (HB.out.up (E.out.trans hk)).k 5; go_simp) ?_
    simp only [Act.put, pA, pB, pC]
    refine WE.c 65 ((HCC.out _).mono ?_)
    rintro e w6 ⟨rfl, hb6⟩
    refine ⟨_, rfl, hb6, ?_⟩
    replace E := hid (E.out.trans hb6)
    clear hb6
    simp only [Act.put, pA, pB, pC]
    refine WE.p 66 (.bool true) ?_
    simp only [Act.put, pA, pB, pC]
    refine WE.p 67 (.bool true) ?_
    simp only [Act.put, pA, pB, pC]
    refine WE.p 68 (.pointer (some ⟨w.heap.size, 0, none⟩)) ?_
    simp only [Act.put, pA, pB, pC]
    refine WE.q 69 (.int .i64 (j : Int)) rfl (fun w' hk => by have ce := (HB.out.up (E.out.trans hk)).k 0; go_simp) ?_
    simp only [Act.put, pA, pB, pC]
    refine WE.p 70 (.pointer (some ⟨0, j * 5, none⟩)) ?_
    simp only [Act.put, pA, pB, pC]
    refine WE.q 71 (rv r0 r1 r2 r3 r4) rfl (fun w' hk => by obtain ⟨q0, q1, q2, q3, q4⟩ := RT.out _ (E.out.trans hk); go_simp) ?_
    simp only [Act.put, pA, pB, pC]
    refine WE.p 72 (.pointer (some ⟨w.heap.size, 5, none⟩)) ?_
    simp only [Act.put, pA, pB, pC]
    refine WE.q 73 (.slice A n c) rfl (fun w' hk => by have ce := (HB.out.up (E.out.trans hk)).k 5; go_simp) ?_
    simp only [Act.put, pA, pB, pC]
    refine WE.c 74 ((HSS.out _ ((Ext.alloc w _).trans E.out)).mono ?_)
    rintro e w6 ⟨rfl, hb6⟩
    refine ⟨_, rfl, hb6, ?_⟩
    replace E := hid (E.out.trans hb6)
    clear hb6
    simp only [Act.put, pA, pB, pC]
    refine WE.p 75 (.bool false) ?_
    simp only [Act.put, pA, pB, pC]
    refine WE.p 76 (.bool false) ?_
    simp only [Act.put, pA, pB, pC]
    refine WE.s 77 ?_
    simp only [Act.put, pA, pB, pC]
    refine WE.s 78 ?_
    simp only [Act.put, pA, pB, pC]
    refine WE.s 79 ?_
    simp only [Act.put, pA, pB, pC]
    refine WE.s 80 ?_
    simp only [Act.put, pA, pB, pC]
    refine WE.t 81 ?_
    simp only [Act.put, pA, pB, pC]
    refine WE.s 82 ?_
    simp only [Act.put, pA, pB, pC]
    refine WE.p 83 (.bool false) ?_
    simp only [Act.put, pA, pB, pC]
    refine WE.p 84 (.bool false) ?_
    simp only [Act.put, pA, pB, pC]
    refine WE.s 85 ?_
    simp only [Act.put, pA, pB, pC]
    refine WE.s 86 ?_
    simp only [Act.put, pA, pB, pC]
    refine WE.s 87 ?_
    simp only [Act.put, pA, pB, pC]
    refine WE.s 88 ?_
    simp only [Act.put, pA, pB, pC]
    refine WE.s 89 ?_
    simp only [Act.put, pA, pB, pC]
    refine WE.s 90 ?_
    simp only [Act.put, pA, pB, pC]
    refine WE.s 91 ?_
    simp only [Act.put, pA, pB, pC]
    refine WE.s 92 ?_
    simp only [Act.put, pA, pB, pC]
    refine WE.s 93 ?_
    simp only [Act.put, pA, pB, pC]
    refine WE.t 94 ?_
    simp only [Act.put, pA, pB, pC]
    refine WE.s 95 ?_
    simp only [Act.put, pA, pB, pC]
    refine WE.t 96 ?_
    simp only [Act.put, pA, pB, pC]
    refine WE.p 97 (.bool false) ?_
    simp only [Act.put, pA, pB, pC]
    refine WE.p 2 (.bool false) ?_
    simp only [Act.put, pA, pB, pC]
    refine WE.done ?_
    go_wp2_with fail
    go_ret
    obtain rfl : false = z := HZ.out
    exact ⟨rfl, (Ext.alloc w _).trans E.out⟩
   rw [Bool.true_and] at hz
   obtain ⟨lin, hlin0⟩ : ∃ q, M.klin op ks = q := ⟨_, rfl⟩
   have HLL := hid (show ∀ w', Ext w w' → Calls Tryd.prog 46 #[.int .i64 op, .slice A n c] w' (GivesN w' lin) from fun w' e => hlin0 ▸ HL.out hop (by rw [hn'] at *; exact hqa) w' e)
   rw [hlin0] at hz
   by_cases hlz : lin = 0
   case neg =>
    have HZ := hid (show false = z by rw [← hz, decide_eq_false hlz]; rfl)
    have hlin : (lin == 0) = false := by simpa using hlz
    subst hj
    clear hz hop HC HS HO HL HT HH ho1 ho2 ho3 ho4 hqa hqs hr0 hr1 hr2 hr3 hr4 hmp hlin0 hlz
    go_enter Tryd.func68, Tryd.ntmps68
    go_wp2_with fail
    refine wp_region_D [(0, 0), (1, 0), (2, 1), (3, 0), (4, 0), (5, 0), (6, 0), (7, 0), (8, 0), (9, 0), (10, 1), (11, 0), (12, 0), (13, 0), (14, 0), (15, 0), (16, 0), (17, 0), (18, 0), (19, 1), (20, 0), (21, 0), (22, 0), (23, 0), (24, 0), (25, 0), (26, 1), (27, 0), (28, 0), (29, 0), (30, 0), (31, 0), (32, 0), (33, 0), (34, 0), (35, 0), (36, 0), (37, 0), (38, 0), (39, 1), (40, 0), (41, 1), (42, 0), (43, 0)] fun wd hb => ?_
    replace E := hid (E.out.trans hb)
    clear hb
    refine WE.p 55 (.pointer (some ⟨w.heap.size, 0, none⟩)) ?_
    simp only [Act.put, pA, pB, pC]
    refine WE.q 56 (.int .i64 (j : Int)) rfl (fun w' hk => by have ce := (HB.out.up (E.out.trans hk)).k 0; go_simp) ?_
    simp only [Act.put, pA, pB, pC]
    refine WE.c 57 ((HR.out _).mono ?_)
    rintro e w6 ⟨rfl, hb6⟩
    refine ⟨_, rfl, hb6, ?_⟩
    replace E := hid (E.out.trans hb6)
    clear hb6
    simp only [Act.put, pA, pB, pC]
    refine WE.p 58 (.bool true) ?_
    simp only [Act.put, pA, pB, pC]
    refine WE.p 59 (.pointer (some ⟨w.heap.size, 0, none⟩)) ?_
    simp only [Act.put, pA, pB, pC]
    refine WE.q 60 (.int .i64 (j : Int)) rfl (fun w' hk => by have ce := (HB.out.up (E.out.trans hk)).k 0; go_simp) ?_
    simp only [Act.put, pA, pB, pC]
    refine WE.p 61 (.pointer (some ⟨0, j * 5, none⟩)) ?_
    simp only [Act.put, pA, pB, pC]
    refine WE.q 62 (rv r0 r1 r2 r3 r4) rfl (fun w' hk => by obtain ⟨q0, q1, q2, q3, q4⟩ := RT.out _ (E.out.trans hk); go_simp) ?_
    simp only [Act.put, pA, pB, pC]
    refine WE.p 63 (.pointer (some ⟨w.heap.size, 5, none⟩)) ?_
    simp only [Act.put, pA, pB, pC]
    refine WE.q 64 (.slice A n c) rfl (fun w' hk => by have ce := (HB.out.up (E.out.trans hk)).k 5; go_simp) ?_
    simp only [Act.put, pA, pB, pC]
    refine WE.c 65 ((HCC.out _).mono ?_)
    rintro e w6 ⟨rfl, hb6⟩
    refine ⟨_, rfl, hb6, ?_⟩
    replace E := hid (E.out.trans hb6)
    clear hb6
    simp only [Act.put, pA, pB, pC]
    refine WE.p 66 (.bool true) ?_
    simp only [Act.put, pA, pB, pC]
    refine WE.p 67 (.bool true) ?_
    simp only [Act.put, pA, pB, pC]
    refine WE.p 68 (.pointer (some ⟨w.heap.size, 0, none⟩)) ?_
    simp only [Act.put, pA, pB, pC]
    refine WE.q 69 (.int .i64 (j : Int)) rfl (fun w' hk => by have ce := (HB.out.up (E.out.trans hk)).k 0; go_simp) ?_
    simp only [Act.put, pA, pB, pC]
    refine WE.p 70 (.pointer (some ⟨0, j * 5, none⟩)) ?_
    simp only [Act.put, pA, pB, pC]
    refine WE.q 71 (rv r0 r1 r2 r3 r4) rfl (fun w' hk => by obtain ⟨q0, q1, q2, q3, q4⟩ := RT.out _ (E.out.trans hk); go_simp) ?_
    simp only [Act.put, pA, pB, pC]
    refine WE.p 72 (.pointer (some ⟨w.heap.size, 5, none⟩)) ?_
    simp only [Act.put, pA, pB, pC]
    refine WE.q 73 (.slice A n c) rfl (fun w' hk => by have ce := (HB.out.up (E.out.trans hk)).k 5; go_simp) ?_
    simp only [Act.put, pA, pB, pC]
    refine WE.c 74 ((HSS.out _ ((Ext.alloc w _).trans E.out)).mono ?_)
    rintro e w6 ⟨rfl, hb6⟩
    refine ⟨_, rfl, hb6, ?_⟩
    replace E := hid (E.out.trans hb6)
    clear hb6
    simp only [Act.put, pA, pB, pC]
    refine WE.p 75 (.bool true) ?_
    simp only [Act.put, pA, pB, pC]
    refine WE.p 76 (.bool true) ?_
    simp only [Act.put, pA, pB, pC]
    refine WE.p 77 (.pointer (some ⟨w.heap.size, 0, none⟩)) ?_
    simp only [Act.put, pA, pB, pC]
    refine WE.q 78 (.int .i64 (j : Int)) rfl (fun w' hk => by have ce := (HB.out.up (E.out.trans hk)).k 0; go_simp) ?_
    simp only [Act.put, pA, pB, pC]
    refine WE.p 79 (.pointer (some ⟨w.heap.size, 5, none⟩)) ?_
    simp only [Act.put, pA, pB, pC]
    refine WE.q 80 (.slice A n c) rfl (fun w' hk => by have ce := (HB.out.up (E.out.trans hk)).k 5; go_simp) ?_
    simp only [Act.put, pA, pB, pC]
    refine WE.c 81 ((HLL.out _ ((Ext.alloc w _).trans E.out)).mono ?_)
    rintro e w6 ⟨rfl, hb6⟩
    refine ⟨_, rfl, hb6, ?_⟩
    replace E := hid (E.out.trans hb6)
    clear hb6
    simp only [Act.put, pA, pB, pC]
    refine WE.q 82 (.bool false) rfl (fun w' hk => by have hl0 := hlin; go_simp) ?_
    simp only [Act.put, pA, pB, pC]
    refine WE.p 83 (.bool false) ?_
    simp only [Act.put, pA, pB, pC]
    refine WE.p 84 (.bool false) ?_
    simp only [Act.put, pA, pB, pC]
    refine WE.s 85 ?_
    simp only [Act.put, pA, pB, pC]
    refine WE.s 86 ?_
    simp only [Act.put, pA, pB, pC]
    refine WE.s 87 ?_
    simp only [Act.put, pA, pB, pC]
    refine WE.s 88 ?_
    simp only [Act.put, pA, pB, pC]
    refine WE.s 89 ?_
    simp only [Act.put, pA, pB, pC]
    refine WE.s 90 ?_
    simp only [Act.put, pA, pB, pC]
    refine WE.s 91 ?_
    simp only [Act.put, pA, pB, pC]
    refine WE.s 92 ?_
    simp only [Act.put, pA, pB, pC]
    refine WE.s 93 ?_
    simp only [Act.put, pA, pB, pC]
    refine WE.t 94 ?_
    simp only [Act.put, pA, pB, pC]
    refine WE.s 95 ?_
    simp only [Act.put, pA, pB, pC]
    refine WE.t 96 ?_
    simp only [Act.put, pA, pB, pC]
    refine WE.p 97 (.bool false) ?_
    simp only [Act.put, pA, pB, pC]
    refine WE.p 2 (.bool false) ?_
    simp only [Act.put, pA, pB, pC]
    refine WE.done ?_
    go_wp2_with fail
    go_ret
    obtain rfl : false = z := HZ.out
    exact ⟨rfl, (Ext.alloc w _).trans E.out⟩
   case pos =>
    subst hlz
    rw [decide_eq_true rfl, Bool.true_and] at hz
    obtain ⟨own, hown⟩ : ∃ q, M.kres op ks = q := ⟨_, rfl⟩
    have HOO := hid (show ∀ w', Ext w w' → Calls Tryd.prog 48 #[rv r0 r1 r2 r3 r4, .slice A n c] w' (GivesN w' own) from fun w' e => by
     have h1 := HO.out (by omega) r0 r1 r2 r3 r4 w' e
     have h2 := M.own_eq hop (l := ks) (by rw [hn']; exact hqa) hqs
     rw [hr4, hown] at h2
     rwa [h2] at h1)
    rw [hown] at hz
    have HH1 := hid (show ∀ w', Ext w w' → Calls Tryd.prog 38 #[kv op g N nn nc nm so A n c, kv op false none 0 0 [] own none 0 0] w' (GivesB w' z) from fun w' e => by
     have := HH.out op false none 0 0 [] own [] w' e (LNum.nil _)
     rw [decide_eq_true (rfl : op = op), Bool.true_and, hz] at this
     exact this)
    subst hj
    clear hz hop HC HS HO HL HT HH ho1 ho2 ho3 ho4 hqa hqs hr0 hr1 hr2 hr3 hr4 hmp hlin0 hown
    go_enter Tryd.func68, Tryd.ntmps68
    go_wp2_with fail
    refine wp_region_D [(0, 0), (1, 0), (2, 1), (3, 0), (4, 0), (5, 0), (6, 0), (7, 0), (8, 0), (9, 0), (10, 1), (11, 0), (12, 0), (13, 0), (14, 0), (15, 0), (16, 0), (17, 0), (18, 0), (19, 1), (20, 0), (21, 0), (22, 0), (23, 0), (24, 0), (25, 0), (26, 1), (27, 0), (28, 0), (29, 0), (30, 0), (31, 0), (32, 0), (33, 0), (34, 0), (35, 0), (36, 0), (37, 0), (38, 0), (39, 1), (40, 0), (41, 1), (42, 0), (43, 0)] fun wd hb => ?_
    replace E := hid (E.out.trans hb)
    clear hb
    refine WE.p 55 (.pointer (some ⟨w.heap.size, 0, none⟩)) ?_
    simp only [Act.put, pA, pB, pC]
    refine WE.q 56 (.int .i64 (j : Int)) rfl (fun w' hk => by have ce := (HB.out.up (E.out.trans hk)).k 0; go_simp) ?_
    simp only [Act.put, pA, pB, pC]
    refine WE.c 57 ((HR.out _).mono ?_)
    rintro e w6 ⟨rfl, hb6⟩
    refine ⟨_, rfl, hb6, ?_⟩
    replace E := hid (E.out.trans hb6)
    clear hb6
    simp only [Act.put, pA, pB, pC]
    refine WE.p 58 (.bool true) ?_
    simp only [Act.put, pA, pB, pC]
    refine WE.p 59 (.pointer (some ⟨w.heap.size, 0, none⟩)) ?_
    simp only [Act.put, pA, pB, pC]
    refine WE.q 60 (.int .i64 (j : Int)) rfl (fun w' hk => by have ce := (HB.out.up (E.out.trans hk)).k 0; go_simp) ?_
    simp only [Act.put, pA, pB, pC]
    refine WE.p 61 (.pointer (some ⟨0, j * 5, none⟩)) ?_
    simp only [Act.put, pA, pB, pC]
    refine WE.q 62 (rv r0 r1 r2 r3 r4) rfl (fun w' hk => by obtain ⟨q0, q1, q2, q3, q4⟩ := RT.out _ (E.out.trans hk); go_simp) ?_
    simp only [Act.put, pA, pB, pC]
    refine WE.p 63 (.pointer (some ⟨w.heap.size, 5, none⟩)) ?_
    simp only [Act.put, pA, pB, pC]
    refine WE.q 64 (.slice A n c) rfl (fun w' hk => by have ce := (HB.out.up (E.out.trans hk)).k 5; go_simp) ?_
    simp only [Act.put, pA, pB, pC]
    refine WE.c 65 ((HCC.out _).mono ?_)
    rintro e w6 ⟨rfl, hb6⟩
    refine ⟨_, rfl, hb6, ?_⟩
    replace E := hid (E.out.trans hb6)
    clear hb6
    simp only [Act.put, pA, pB, pC]
    refine WE.p 66 (.bool true) ?_
    simp only [Act.put, pA, pB, pC]
    refine WE.p 67 (.bool true) ?_
    simp only [Act.put, pA, pB, pC]
    refine WE.p 68 (.pointer (some ⟨w.heap.size, 0, none⟩)) ?_
    simp only [Act.put, pA, pB, pC]
    refine WE.q 69 (.int .i64 (j : Int)) rfl (fun w' hk => by have ce := (HB.out.up (E.out.trans hk)).k 0; go_simp) ?_
    simp only [Act.put, pA, pB, pC]
    refine WE.p 70 (.pointer (some ⟨0, j * 5, none⟩)) ?_
    simp only [Act.put, pA, pB, pC]
    refine WE.q 71 (rv r0 r1 r2 r3 r4) rfl (fun w' hk => by obtain ⟨q0, q1, q2, q3, q4⟩ := RT.out _ (E.out.trans hk); go_simp) ?_
    simp only [Act.put, pA, pB, pC]
    refine WE.p 72 (.pointer (some ⟨w.heap.size, 5, none⟩)) ?_
    simp only [Act.put, pA, pB, pC]
    refine WE.q 73 (.slice A n c) rfl (fun w' hk => by have ce := (HB.out.up (E.out.trans hk)).k 5; go_simp) ?_
    simp only [Act.put, pA, pB, pC]
    refine WE.c 74 ((HSS.out _ ((Ext.alloc w _).trans E.out)).mono ?_)
    rintro e w6 ⟨rfl, hb6⟩
    refine ⟨_, rfl, hb6, ?_⟩
    replace E := hid (E.out.trans hb6)
    clear hb6
    simp only [Act.put, pA, pB, pC]
    refine WE.p 75 (.bool true) ?_
    simp only [Act.put, pA, pB, pC]
    refine WE.p 76 (.bool true) ?_
    simp only [Act.put, pA, pB, pC]
    refine WE.p 77 (.pointer (some ⟨w.heap.size, 0, none⟩)) ?_
    simp only [Act.put, pA, pB, pC]
    refine WE.q 78 (.int .i64 (j : Int)) rfl (fun w' hk => by have ce := (HB.out.up (E.out.trans hk)).k 0; go_simp) ?_
    simp only [Act.put, pA, pB, pC]
    refine WE.p 79 (.pointer (some ⟨w.heap.size, 5, none⟩)) ?_
    simp only [Act.put, pA, pB, pC]
    refine WE.q 80 (.slice A n c) rfl (fun w' hk => by have ce := (HB.out.up (E.out.trans hk)).k 5; go_simp) ?_
    simp only [Act.put, pA, pB, pC]
    refine WE.c 81 ((HLL.out _ ((Ext.alloc w _).trans E.out)).mono ?_)
    rintro e w6 ⟨rfl, hb6⟩
    refine ⟨_, rfl, hb6, ?_⟩
    replace E := hid (E.out.trans hb6)
    clear hb6
    simp only [Act.put, pA, pB, pC]
    refine WE.p 82 (.bool true) ?_
    simp only [Act.put, pA, pB, pC]
    refine WE.p 83 (.bool true) ?_
    simp only [Act.put, pA, pB, pC]
    refine WE.p 84 (.bool true) ?_
    simp only [Act.put, pA, pB, pC]
    refine WE.q 85 (kv (j : Int) g N nn nc nm so A n c) rfl (fun w' hk => by obtain ⟨⟨b0, b1, b2, b3, b4, b5⟩, -, -⟩ := boxF6 (HB.out.up (E.out.trans hk)); go_simp) ?_
    simp only [Act.put, pA, pB, pC]
    refine WE.p 86 (.pointer (some ⟨w.heap.size, 0, none⟩)) ?_
    simp only [Act.put, pA, pB, pC]
    refine WE.q 87 (.int .i64 (j : Int)) rfl (fun w' hk => by have ce := (HB.out.up (E.out.trans hk)).k 0; go_simp) ?_
    simp only [Act.put, pA, pB, pC]
    refine WE.p 88 (.pointer (some ⟨w.heap.size, 0, none⟩)) ?_
    simp only [Act.put, pA, pB, pC]
    refine WE.q 89 (.int .i64 (j : Int)) rfl (fun w' hk => by have ce := (HB.out.up (E.out.trans hk)).k 0; go_simp) ?_
    simp only [Act.put, pA, pB, pC]
    refine WE.p 90 (.pointer (some ⟨0, j * 5, none⟩)) ?_
    simp only [Act.put, pA, pB, pC]
    refine WE.q 91 (rv r0 r1 r2 r3 r4) rfl (fun w' hk => by obtain ⟨q0, q1, q2, q3, q4⟩ := RT.out _ (E.out.trans hk); go_simp) ?_
    simp only [Act.put, pA, pB, pC]
    refine WE.p 92 (.pointer (some ⟨w.heap.size, 5, none⟩)) ?_
    simp only [Act.put, pA, pB, pC]
    refine WE.q 93 (.slice A n c) rfl (fun w' hk => by have ce := (HB.out.up (E.out.trans hk)).k 5; go_simp) ?_
    simp only [Act.put, pA, pB, pC]
    refine WE.c 94 ((HOO.out _ ((Ext.alloc w _).trans E.out)).mono ?_)
    rintro e w6 ⟨rfl, hb6⟩
    refine ⟨_, rfl, hb6, ?_⟩
    replace E := hid (E.out.trans hb6)
    clear hb6
    simp only [Act.put, pA, pB, pC]
    refine WE.p 95 (kv (j : Int) false none 0 0 [] own none 0 0) ?_
    simp only [Act.put, pA, pB, pC]
    refine WE.c 96 ((HH1.out _ ((Ext.alloc w _).trans E.out)).mono ?_)
    rintro e w6 ⟨rfl, hb6⟩
    refine ⟨_, rfl, hb6, ?_⟩
    replace E := hid (E.out.trans hb6)
    clear hb6
    simp only [Act.put, pA, pB, pC]
    refine WE.p 97 (.bool z) ?_
    simp only [Act.put, pA, pB, pC]
    refine WE.p 2 (.bool z) ?_
    simp only [Act.put, pA, pB, pC]
    refine WE.done ?_
    go_wp2_with fail
    go_ret
    exact ⟨rfl, (Ext.alloc w _).trans E.out⟩
end Go.Proofs.YtaoboilkpgphaaaDoor.Q
