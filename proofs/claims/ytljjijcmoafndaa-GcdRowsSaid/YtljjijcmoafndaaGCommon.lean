/-
  Contract of package gcd's common: what all of a list have in common.
-/
import Derived.Test.YtljjijcmoafndaaGRow
import Derived.Test.YtljjijcmoafndaaZFaceA
namespace Go.Proofs.Ytljjijcmoafndaa
open Go.RowKit
set_option linter.unusedSimpArgs false
set_option linter.unusedVariables false

set_option maxHeartbeats 1000000 in
theorem common_w {w : World} {v : Value} {ls : List (Bool × List Nat)} {K : Nat} (hl : ZList w v ls) (hs : ∀ x ∈ ls, x.2.length ≤ K) (hK : K ≤ 1000000) :
    Calls Try.prog 28 #[v] w (GivesZ w (M.gl ls : Int) K) := by
  obtain ⟨A, n, c, rfl⟩ := hl.shape
  have HL := hid hl
  have HC := hid hl.count
  have HS := hid hs
  have HK := hid hK
  have hb9 : n ≤ 9223372036854775807 := hl.count.2.2
  clear hl hs hK
  go_enter Try.func28, Try.ntmps28
  go_upto_region 1 with (fail)
  have E := hid ((Ext.refl w).alloc' (.cells #[.bool false, .slice none 0 0] 24))
  have B1 : Hid (Box (w.alloc (.cells #[.bool false, .slice none 0 0] 24)) (w.heap.size) #[.bool false, .slice none 0 0] 24) := hid (Box.at_ (w := w) #[.bool false, .slice none 0 0] 24 (by simp))
  replace HL := hid (HL.out.up E.out)
  go_wp2
  go_loopw [3, 8] (fun d i wr => ∃ (k : Nat) (A2 : Option Addr) (n2 c2 : Nat), k ≤ n ∧ i = .int .i64 (k : Int) ∧ d = .slice A2 n2 c2 ∧ Hid (IsN wr (.slice A2 n2 c2) (M.gl (ls.take k)) K) ∧ Ext w wr ∧ Box wr (w.heap.size) #[.bool false, .slice none 0 0] 24 ∧ ZList wr (.slice A n c) ls) (fun _ i _ => n - (intOf i).toNat)
  case atStart => exact ⟨0, none, 0, 0, Nat.zero_le _, rfl, rfl, ⟨by rw [List.take_zero, M.gl_nil, M.limbs_zero]; exact Num.nil _ _, by rw [List.take_zero, M.gl_nil, M.limbs_zero]; simp⟩, E.out, B1.out, HL.out⟩
  case round =>
    clear E B1 HL
    obtain ⟨k, A2, n2, c2, hk, rfl, rfl, RD, hext, hbx, hll⟩ := hrel
    have E := hid hext
    have B1 := hid hbx
    have HL := hid hll
    clear hext hbx hll
    by_cases hlt : k < n
    · have hlt' : decide ((k : Int) < (n : Int)) = true := decide_eq_true (by omega)
      obtain ⟨x, hx⟩ : ∃ x, ls[k]? = some x := ⟨_, List.getElem?_eq_getElem (by rw [← HC.out.1]; exact hlt)⟩
      obtain ⟨ad, A3, n3, c3, rfl, k0, k1, hm⟩ := HL.out.get hx
      obtain ⟨gx, lx⟩ := x
      have HX := hid hx
      have KA := hid k0
      have KB := hid k1
      have RX := hid (show Worth wr (.agg #[.bool gx, .slice A3 n3 c3]) (M.zv gx lx) K from ⟨gx, A3, n3, c3, lx, rfl, hm, HS.out _ (List.mem_of_getElem? hx), rfl⟩)
      have EW := hid (Ext.refl wr)
      clear hx k0 k1 hm
      go_upto_region 4 with (fail)
      refine wp_region_T [(0, 0), (1, 0), (2, 1), (3, 4)] (by kernel_rfl) fun wd hb => ?_
      replace EW := hid (EW.out.trans hb)
      replace B1 := hid (B1.out.up hb)
      replace KA := hid (KA.out.up hb)
      replace KB := hid (KB.out.up hb)
      replace RX := hid (RX.out.up hb)
      replace RD := hid (RD.out.up hb)
      clear hb
      refine WE.pure (d := some 10) rfl rfl (by rfl) (v := ((.pointer (some (ad.add (k * 2)))))) (fun w' hk => ?_) ?_
      · go_simp
      simp only [Act.put, List.setIfInBounds_toArray, List.set_cons_zero, List.set_cons_succ]
      refine WE.pure (d := some 11) rfl rfl (by rfl) (v := (.agg #[.bool gx, .slice A3 n3 c3])) (fun w' hk => ?_) ?_
      · have c0 : w'.cell? (ad.add (k * 2)) = some (.bool gx) := KA.out.up hk; have c1 : w'.cell? ⟨(ad.add (k * 2)).block, (ad.add (k * 2)).off + 1, none⟩ = some (.slice A3 n3 c3) := KB.out.up hk; go_simp
      simp only [Act.put, List.setIfInBounds_toArray, List.set_cons_zero, List.set_cons_succ]
      clear KA KB
      refine WE.new (d := some 5) (cs := #[.bool false, .slice none 0 0]) (t := 24) (v := fun g => (.pointer (some ⟨g, 0, none⟩))) rfl rfl (by rfl) (fun w => by go_simp) fun gC1 wv hx0 hbox hge => ?_
      have HNC1B1 := hid (show gC1 ≠ (w.heap.size) by have := B1.out.lt; omega)
      have HGC1 := hid (show wr.heap.size ≤ gC1 by have := EW.out.size; omega)
      replace EW := hid (EW.out.trans hx0)
      replace B1 := hid (B1.out.up hx0)
      replace RX := hid (RX.out.up hx0)
      replace RD := hid (RD.out.up hx0)
      have C1 : Hid (Box wv gC1 #[.bool false, .slice none 0 0] 24) := hid hbox
      clear hx0 hbox hge
      simp only [Act.put, List.setIfInBounds_toArray, List.set_cons_zero, List.set_cons_succ]
      refine WE.store2 (g := gC1) (x := .bool gx) (y := .slice A3 n3 c3) (t := 24) rfl rfl (by rfl) (fun w hb => ?_) C1.out (by rfl) fun ws hk hs => ?_
      · have c0 := hb.cell (o := 0) (v := .bool false) rfl; have f0 := hb.free 0; have c1 := hb.cell (o := 1) (v := .slice none 0 0) rfl; have f1 := hb.free 1; go_simp
      intro hbx
      replace EW := hid (EW.out.keptG hk HGC1.out)
      replace B1 := hid (B1.out.kept hk (by simpa using HNC1B1.out.symm))
      replace C1 := hid hbx
      replace RX := hid (RX.out.kz hs)
      replace RD := hid (RD.out.kz hs)
      clear hk hs hbx
      refine WE.done ?_
      go_upto_region 5 with (fail)
      refine wp_region_T [(0, 0), (1, 1), (2, 0), (3, 0), (4, 1), (5, 0)] (by kernel_rfl) fun wd hb => ?_
      replace EW := hid (EW.out.trans hb)
      replace B1 := hid (B1.out.up hb)
      replace C1 := hid (C1.out.up hb)
      replace RX := hid (RX.out.up hb)
      replace RD := hid (RD.out.up hb)
      clear hb
      refine WE.pure (d := some 12) rfl rfl (by rfl) (v := (.agg #[.bool gx, .slice A3 n3 c3])) (fun w' hk => ?_) ?_
      · have c0 := hk.cell (C1.out.cell (o := 0) (v := .bool gx) rfl); have c1 := hk.cell (C1.out.cell (o := 1) (v := .slice A3 n3 c3) rfl); go_simp
      simp only [Act.put, List.setIfInBounds_toArray, List.set_cons_zero, List.set_cons_succ]
      refine WE.call (d := some 13) rfl rfl (by rfl) (f := 30) (args := #[(.agg #[.bool gx, .slice A3 n3 c3])]) (by go_simp) ?_
      refine (abs_w RX.out (by have := HK.out; omega)).mono ?_
      rintro e wn ⟨vx, rfl, hx, hb⟩
      obtain ⟨g4, A4, n4, c4, rfl, hs4, hr4⟩ := hx.form
      clear hx
      refine ⟨_, rfl, hb, ?_⟩
      replace EW := hid (EW.out.trans hb)
      replace B1 := hid (B1.out.up hb)
      replace C1 := hid (C1.out.up hb)
      replace RX := hid (RX.out.up hb)
      replace RD := hid (RD.out.up hb)
      have HS4 := hid hs4
      have R4 := hid hr4
      clear hb hs4 hr4
      simp only [Act.put, List.setIfInBounds_toArray, List.set_cons_zero, List.set_cons_succ]
      refine WE.pure (d := some 14) rfl rfl (by rfl) (v := (.slice A4 n4 c4)) (fun w' hk => ?_) ?_
      · have hf : ∀ w, (Instr.field 24 (.agg #[.bool g4, .slice A4 n4 c4]) 1).run Try.prog w = .ok (.slice A4 n4 c4) w := (fun w => by kernel_rfl); go_simp
      simp only [Act.put, List.setIfInBounds_toArray, List.set_cons_zero, List.set_cons_succ]
      refine WE.pure (d := some 15) rfl rfl (by rfl) (v := (.slice A2 n2 c2)) (fun w' hk => ?_) ?_
      · go_simp
      simp only [Act.put, List.setIfInBounds_toArray, List.set_cons_zero, List.set_cons_succ]
      refine WE.call (d := some 16) rfl rfl (by rfl) (f := 49) (args := #[(.slice A4 n4 c4), (.slice A2 n2 c2)]) (by go_simp) ?_
      refine (shared_n (a := (M.zv gx lx).natAbs) R4.out RD.out HK.out).mono ?_
      rintro e wn ⟨vx, rfl, hx, hb⟩
      obtain ⟨A5, n5, c5, rfl⟩ := hx.1.slice
      refine ⟨_, rfl, hb, ?_⟩
      replace EW := hid (EW.out.trans hb)
      replace B1 := hid (B1.out.up hb)
      replace C1 := hid (C1.out.up hb)
      replace RX := hid (RX.out.up hb)
      replace RD := hid (RD.out.up hb)
      replace R4 := hid (R4.out.up hb)
      have R5 := hid hx
      clear hb hx
      simp only [Act.put, List.setIfInBounds_toArray, List.set_cons_zero, List.set_cons_succ]
      refine WE.pure (d := some 3) rfl rfl (by rfl) (v := (.slice A5 n5 c5)) (fun w' hk => ?_) ?_
      · go_simp
      simp only [Act.put, List.setIfInBounds_toArray, List.set_cons_zero, List.set_cons_succ]
      refine WE.done ?_
      go_wp2
      go_roundw
      case rel => exact ⟨k + 1, A5, n5, c5, by omega, by go_num, rfl, by rw [M.gl_take HX.out]; exact R5, E.out.trans EW.out, B1.out, HL.out.up EW.out⟩
      case measure => simp [intOf]; all_goals omega
    · obtain rfl : k = n := by omega
      have hlt' : decide ((k : Int) < (k : Int)) = false := by simp
      go_upto_region 7 with (fail)
      refine wp_region_T [(0, 0), (1, 0), (2, 4)] (by kernel_rfl) fun wd hb => ?_
      replace E := hid (E.out.trans hb)
      replace B1 := hid (B1.out.up hb)
      replace RD := hid (RD.out.up hb)
      clear hb
      refine WE.pure (d := some 18) rfl rfl (by rfl) (v := (.slice A2 n2 c2)) (fun w' hk => ?_) ?_
      · go_simp
      simp only [Act.put, List.setIfInBounds_toArray, List.set_cons_zero, List.set_cons_succ]
      refine WE.pure (d := some 19) rfl rfl (by rfl) (v := (.agg #[.bool false, .slice A2 n2 c2])) (fun w' hk => ?_) ?_
      · go_simp
      simp only [Act.put, List.setIfInBounds_toArray, List.set_cons_zero, List.set_cons_succ]
      refine WE.store2 (g := (w.heap.size)) (x := .bool false) (y := .slice A2 n2 c2) (t := 24) rfl rfl (by rfl) (fun w hb => ?_) B1.out (by rfl) fun ws hk hs => ?_
      · have c0 := hb.cell (o := 0) (v := .bool false) rfl; have f0 := hb.free 0; have c1 := hb.cell (o := 1) (v := .slice none 0 0) rfl; have f1 := hb.free 1; go_simp
      intro hbx
      replace E := hid (E.out.keptG hk (by simp))
      replace B1 := hid hbx
      replace RD := hid (RD.out.kz hs)
      clear hk hs hbx
      refine WE.done ?_
      have r0 := B1.out.cell (o := 0) (v := .bool false) rfl
      have r1 := B1.out.cell (o := 1) (v := .slice A2 n2 c2) rfl
      go_wp2
      exact bodyPost_ret (v := .agg #[.bool false, .slice A2 n2 c2]) (by simp [results, Try.results28, go_sem, r0, r1]) rfl ⟨_, rfl, IsZ.mk (by simp; done) (by rw [Int.natAbs_natCast]; have h1 := RD.out; rw [List.take_of_length_le (by rw [HC.out.1]; exact Nat.le_refl _)] at h1; exact h1), E.out⟩

end Go.Proofs.Ytljjijcmoafndaa
