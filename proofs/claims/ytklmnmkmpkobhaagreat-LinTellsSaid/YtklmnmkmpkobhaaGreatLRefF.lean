/-
  Contracts of the reference's forms: Const, Add, Sub, Put.
-/
import Derived.Test.YtklmnmkmpkobhaaGreatLFacM
import Derived.Test.YtklmnmkmpkobhaaGreatLRefD
import Derived.Test.YtklmnmkmpkobhaaGreatRZC
namespace Go.Proofs.YtklmnmkmpkobhaaGreat
open Go.RowKit
set_option linter.unusedSimpArgs false
set_option linter.unusedVariables false

theorem LTm.bel {w : World} {A : Option Addr} {n c W base : Nat} {t : M.Tm} (h : LTm w (.slice A n c) t W) (hb : w.heap.size ≤ base) : ∀ ad, A = some ad → t ≠ [] → ad.block < base := by
 intro ad ha ht
 obtain ⟨A', n', c', e, _, _, _, h5⟩ := h.1
 injection e with e1 e2 e3
 rcases t with _ | ⟨x, r⟩
 ·exact absurd rfl ht
 ·obtain ⟨ad', ha', hlt, _⟩ := h5 0 (M.rawm x) rfl
  rw [← e1, ha] at ha'
  injection ha' with ha'
  subst ha'
  omega
theorem LTm.keptB {w w' : World} {A : Option Addr} {n c W base g : Nat} {t : M.Tm} (h : LTm w (.slice A n c) t W) (hb : ∀ ad, A = some ad → t ≠ [] → ad.block < base) (hk : Kept [g] w w') (hg : base ≤ g) (hs : Keeps w w') : LTm w' (.slice A n c) t W := by
 refine ⟨?_, h.2⟩
 obtain ⟨A', n', c', e, h2, h3, h4, h5⟩ := h.1
 injection e with e1 e2 e3
 subst e1 e2 e3
 refine ⟨_, _, _, rfl, h2, h3, h4, fun k x hx => ?_⟩
 obtain ⟨ad, ha, hlt, B, p, q, k1, k2, k3, k4⟩ := h5 k x hx
 have hne : ad.block ≠ g := by
  have := hb ad ha (by rintro rfl; simp at hx)
  omega
 have hkeep : ∀ a : Addr, a.block = ad.block → w'.cell? a = w.cell? a := fun a e => World.cell?_of_block (by rw [e]; exact hk.2 ad.block hlt (by simpa using hne))
 exact ⟨ad, ha, Nat.lt_of_lt_of_le hlt hk.1.size, B, p, q, by rw [hkeep _ (addr_block _ _)]; exact k1, by rw [hkeep _ (by rw [addr_block, addr_block])]; exact k2, by rw [hkeep _ (by rw [addr_block, addr_block])]; exact k3, hs _ _ k4⟩
namespace M
theorem add_left {out t s : Tm} {i k : Nat} {x y : Int × Int} (hx : t[i]? = some x) (hy : s[k]? = some y) (h : x.1 < y.1) : (out ++ [x]) ++ addT (t.drop (i + 1)) (s.drop k) = out ++ addT (t.drop i) (s.drop k) := by
 obtain ⟨a, b⟩ := x
 obtain ⟨c, d⟩ := y
 rw [dropm hx, dropm hy, addT_cons, if_pos h, List.append_assoc]; rfl
theorem add_left_end {out t s : Tm} {i k : Nat} {x : Int × Int} (hx : t[i]? = some x) (hk : s.length ≤ k) : (out ++ [x]) ++ addT (t.drop (i + 1)) (s.drop k) = out ++ addT (t.drop i) (s.drop k) := by
 rw [List.drop_eq_nil_of_le hk, addT_nil, addT_nil, dropm hx, List.append_assoc]; rfl
theorem add_right {out t s : Tm} {i k : Nat} {x y : Int × Int} (hx : t[i]? = some x) (hy : s[k]? = some y) (h : y.1 < x.1) : (out ++ [y]) ++ addT (t.drop i) (s.drop (k + 1)) = out ++ addT (t.drop i) (s.drop k) := by
 obtain ⟨a, b⟩ := x
 obtain ⟨c, d⟩ := y
 simp only [] at h
 rw [dropm hx, dropm hy, addT_cons, if_neg (by omega), if_pos h, List.append_assoc]; rfl
theorem add_right_end {out t s : Tm} {i k : Nat} {y : Int × Int} (hi : t.length ≤ i) (hy : s[k]? = some y) : (out ++ [y]) ++ addT (t.drop i) (s.drop (k + 1)) = out ++ addT (t.drop i) (s.drop k) := by
 rw [List.drop_eq_nil_of_le hi, nil_addT, nil_addT, dropm hy, List.append_assoc]; rfl
theorem add_zero {out t s : Tm} {i k : Nat} {v a b : Int} (hx : t[i]? = some (v, a)) (hy : s[k]? = some (v, b)) (h : a + b = 0) : out ++ addT (t.drop (i + 1)) (s.drop (k + 1)) = out ++ addT (t.drop i) (s.drop k) := by
 rw [dropm hx, dropm hy, addT_cons, if_neg (Int.lt_irrefl v), if_neg (Int.lt_irrefl v), if_pos h]
theorem add_some {out t s : Tm} {i k : Nat} {v a b : Int} (hx : t[i]? = some (v, a)) (hy : s[k]? = some (v, b)) (h : a + b ≠ 0) : (out ++ [(v, a + b)]) ++ addT (t.drop (i + 1)) (s.drop (k + 1)) = out ++ addT (t.drop i) (s.drop k) := by
 rw [dropm hx, dropm hy, addT_cons, if_neg (Int.lt_irrefl v), if_neg (Int.lt_irrefl v), if_neg h, List.append_assoc]; rfl
end M
theorem snoc_width {out : M.Tm} {x : Int × Int} {W U : Nat} (h : ∀ x ∈ out, (M.limbs x.2.natAbs).length ≤ W) (hx : (M.limbs x.2.natAbs).length ≤ U) (hu : U ≤ W) : ∀ y ∈ out ++ [x], (M.limbs y.2.natAbs).length ≤ W := by
 intro y hy
 rcases List.mem_append.1 hy with hy | hy
 ·exact h y hy
 ·simp at hy; subst hy; exact Nat.le_trans hx hu

set_option maxHeartbeats 2000000 in
theorem rConstL_l {w : World} {u : Value} {Z : Int} {W : Nat} (h1 : Worth w u Z W) :
 Calls Tryz.prog 18 #[u] w (GivesL w [] Z W) := by
 obtain ⟨g1, A1, n1, c1, rfl⟩ := h1.shape
 have R1 := hid h1
 clear h1
 go_enter Tryz.func18, Tryz.ntmps18
 go_upto_region 1 with (fail)
 obtain ⟨E, BX0, BX1⟩ := open2 w #[.bool g1, .slice A1 n1 c1] 25 #[.slice none 0 0, .bool false, .slice none 0 0] 27
 replace R1 := hid (R1.out.up E.out)
 refine wp_region_S [(0, 0), (1, 1), (2, 0), (3, 4)] fun wd hb => ?_
 replace E := hid (E.out.trans hb)
 replace BX0 := hid (BX0.out.up hb)
 replace BX1 := hid (BX1.out.up hb)
 replace R1 := hid (R1.out.up hb)
 clear hb
 have EY := hid (Ext.refl wd)
 refine WE.qq 3 (.agg #[.bool g1, .slice A1 n1 c1]) rfl (fun w' hk => by obtain ⟨ce0, ce1⟩ := ((BX0.out.up EY.out).up hk).c2; go_simp) ?_
 refine WE.cc 4 ((rMay_w (R1.out.up EY.out)).mono ?_)
 rintro e wn ⟨v1, rfl, x1, hb⟩
 obtain ⟨g11, A11, n11, c11, rfl⟩ := x1.shape
 refine ⟨_, rfl, hb, ?_⟩
 replace EY := hid (EY.out.trans hb)
 have Q11 := hid x1
 clear hb x1
 refine WE.pp 5 (.agg #[.slice none 0 0, .bool g11, .slice A11 n11 c11]) ?_
 simp only [Act.put, pA, pB, pC]
 refine WE.store3 (g := (w.heap.size + 1)) (x := .slice none 0 0) (y := .bool g11) (z := .slice A11 n11 c11) (t := 27) rfl rfl (by rfl) (fun w hb => ?_) (BX1.out.up EY.out) (by rfl) fun ws hk hs => ?_
 ·obtain ⟨ce0, ce1, ce2⟩ := hb.c3; obtain ⟨f0, f1, f2⟩ := hb.f3; go_simp
 intro hbx
 replace E := hid ((E.out.trans EY.out).keptG hk (by simp))
 replace BX1 := hid hbx
 replace Q11 := hid (Q11.out.kz hs)
 clear hk hs hbx
 replace EY := hid (Ext.refl ws)
 refine WE.done ?_
 have r0 := (BX1.out.up EY.out).cell (o := 0) (v := .slice none 0 0) rfl
 have r1 := (BX1.out.up EY.out).cell (o := 1) (v := .bool g11) rfl
 have r2 := (BX1.out.up EY.out).cell (o := 2) (v := .slice A11 n11 c11) rfl
 repeat go_step
 exact bodyPost_ret (v := .agg #[.slice none 0 0, .bool g11, .slice A11 n11 c11]) (by simp [results, Tryz.results18, go_sem, r0, r1, r2]) rfl ⟨_, rfl, ⟨_, _, _, _, _, _, _, rfl, LTm.nil _ _, (Q11.out.up EY.out), trivial⟩, (E.out.trans EY.out)⟩

set_option maxRecDepth 100000 in
set_option maxHeartbeats 8000000 in
theorem rAddL_l {w : World} {u v : Value} {t s : M.Tm} {κ μ : Int} {W : Nat} (h1 : WorthL w u t κ W) (h2 : WorthL w v s μ W) (hw : W ≤ 1000) (hn : t.length ≤ 1000) (hm : s.length ≤ 1000) :
 Calls Tryz.prog 22 #[u, v] w (GivesL w (M.addT t s) (κ + μ) (W + 1)) := by
 obtain ⟨A1, n1, c1, g1, B1, m1, d1, rfl⟩ := h1.shape
 have R1 := hid h1
 obtain ⟨A2, n2, c2, g2, B2, m2, d2, rfl⟩ := h2.shape
 have R2 := hid h2
 have HW := hid hw
 have HN := hid hn
 have HM := hid hm
 clear hw hn hm
 clear h1 h2
 go_enter Tryz.func22, Tryz.ntmps22
 go_upto_region 1 with (fail)
 obtain ⟨E, BX0, BX1, BX2⟩ := open3 w #[.slice A1 n1 c1, .bool g1, .slice B1 m1 d1] 27 #[.slice A2 n2 c2, .bool g2, .slice B2 m2 d2] 27 #[.slice none 0 0, .bool false, .slice none 0 0] 27
 replace R1 := hid (R1.out.up E.out)
 replace R2 := hid (R2.out.up E.out)
 refine wp_region_L [(0, 0), (2, 0), (1, 2), (3, 2), (4, 3), (5, 3), (6, 4), (7, 4)] 27 #[.slice none 0 0, .bool false, .slice none 0 0] fun wd hb => ?_
 replace E := hid (E.out.trans hb)
 replace BX0 := hid (BX0.out.up hb)
 replace BX1 := hid (BX1.out.up hb)
 replace BX2 := hid (BX2.out.up hb)
 replace R1 := hid (R1.out.up hb)
 replace R2 := hid (R2.out.up hb)
 clear hb
 have HL1BX0 := hid BX0.out.lt
 have HL1BX1 := hid BX1.out.lt
 have HL1BX2 := hid BX2.out.lt
 have HW1 := hid (show w.heap.size ≤ wd.heap.size from E.out.size)
 have EY := hid (Ext.refl wd)
 refine WE.qq 11 (.agg #[.slice A1 n1 c1, .bool g1, .slice B1 m1 d1]) rfl (fun w' hk => by obtain ⟨ce0, ce1, ce2⟩ := ((BX0.out.up EY.out).up hk).c3; go_simp) ?_
 refine WE.qq 13 (.agg #[.slice A2 n2 c2, .bool g2, .slice B2 m2 d2]) rfl (fun w' hk => by obtain ⟨ce0, ce1, ce2⟩ := ((BX1.out.up EY.out).up hk).c3; go_simp) ?_
 simp only [Act.put, pA, pB, pC]
 refine WE.callR (d := some 12) rfl rfl (by rfl) (f := 13) (args := #[(.agg #[.slice A1 n1 c1, .bool g1, .slice B1 m1 d1])]) (fun w => by go_simp) (fun wx hx0 => ?_)
 replace EY := hid (EY.out.trans hx0)
 clear hx0
 refine (rMayL_l (R1.out.up EY.out)).mono ?_
 rintro e w11 ⟨v1, rfl, x1, hb⟩
 obtain ⟨A11, n11, c11, g11, B11, m11, d11, rfl, t1, k1, o1⟩ := x1
 refine ⟨_, rfl, hb, ?_⟩
 replace EY := hid (EY.out.trans hb)
 have T11 := hid t1
 have Q11 := hid k1
 have O11 := hid o1
 have F11 := hid (Ext.refl w11)
 clear hb t1 k1 o1
 simp only [Act.put, pA, pB, pC]
 refine WE.callR (d := some 14) rfl rfl (by rfl) (f := 13) (args := #[(.agg #[.slice A2 n2 c2, .bool g2, .slice B2 m2 d2])]) (fun w => by go_simp) (fun wx hx0 => ?_)
 replace EY := hid (EY.out.trans hx0)
 replace Q11 := hid (Q11.out.up hx0)
 replace F11 := hid (F11.out.trans hx0)
 clear hx0
 refine (rMayL_l (R2.out.up EY.out)).mono ?_
 rintro e w12 ⟨v1, rfl, x1, hb⟩
 obtain ⟨A12, n12, c12, g12, B12, m12, d12, rfl, t1, k1, o1⟩ := x1
 refine ⟨_, rfl, hb, ?_⟩
 replace EY := hid (EY.out.trans hb)
 replace Q11 := hid (Q11.out.up hb)
 replace F11 := hid (F11.out.trans hb)
 have T12 := hid t1
 have Q12 := hid k1
 have O12 := hid o1
 have F12 := hid (Ext.refl w12)
 clear hb t1 k1 o1
 simp only [Act.put, pA, pB, pC]
 refine WE.var (d := some 5) rfl fun gV5 wv hx0 hbox hge hng => ?_
 have HNV5BX2 := hid (show gV5 ≠ (w.heap.size + 2) by have := HL1BX2.out; omega)
 have HGV5 := hid (show w.heap.size ≤ gV5 by have := HW1.out; omega)
 replace EY := hid (EY.out.trans hx0)
 replace Q11 := hid (Q11.out.up hx0)
 replace Q12 := hid (Q12.out.up hx0)
 replace F11 := hid (F11.out.trans hx0)
 replace F12 := hid (F12.out.trans hx0)
 have V5 : Hid (Box wv gV5 #[.slice none 0 0, .bool false, .slice none 0 0] 27) := hid hbox
 clear hx0 hbox hge hng
 simp only [Act.put, pA, pB, pC]
 refine WE.var (d := some 6) rfl fun gV6 wv hx0 hbox hge hng => ?_
 have HNV6BX2 := hid (show gV6 ≠ (w.heap.size + 2) by have := HL1BX2.out; omega)
 have HNV6V5 := hid (show gV6 ≠ gV5 by intro e; exact hng (by simp [e]))
 have HGV6 := hid (show w.heap.size ≤ gV6 by have := HW1.out; omega)
 replace EY := hid (EY.out.trans hx0)
 replace V5 := hid (V5.out.up hx0)
 replace Q11 := hid (Q11.out.up hx0)
 replace Q12 := hid (Q12.out.up hx0)
 replace F11 := hid (F11.out.trans hx0)
 replace F12 := hid (F12.out.trans hx0)
 have V6 : Hid (Box wv gV6 #[.slice none 0 0, .bool false, .slice none 0 0] 27) := hid hbox
 clear hx0 hbox hge hng
 simp only [Act.put, pA, pB, pC]
 refine WE.store3 (g := gV5) (x := .slice A11 n11 c11) (y := .bool g11) (z := .slice B11 m11 d11) (t := 27) rfl rfl (by rfl) (fun w hb => ?_) V5.out (by rfl) fun ws hk hs => ?_
 ·obtain ⟨ce0, ce1, ce2⟩ := hb.c3; obtain ⟨f0, f1, f2⟩ := hb.f3; go_simp
 intro hbx
 replace T11 := hid ((T11.out.up F11.out).kb V5.out (by rfl) hk hs)
 replace T12 := hid ((T12.out.up F12.out).kb V5.out (by rfl) hk hs)
 replace E := hid ((E.out.trans EY.out).keptG hk HGV5.out)
 replace BX2 := hid ((BX2.out.up EY.out).kept hk (by simpa using HNV5BX2.out.symm))
 replace V5 := hid hbx
 replace V6 := hid (V6.out.kept hk (by simpa using HNV6V5.out))
 replace Q11 := hid (Q11.out.kz hs)
 replace Q12 := hid (Q12.out.kz hs)
 clear hk hs hbx
 replace EY := hid (Ext.refl ws)
 replace F11 := hid (Ext.refl ws)
 replace F12 := hid (Ext.refl ws)
 refine WE.store3 (g := gV6) (x := .slice A12 n12 c12) (y := .bool g12) (z := .slice B12 m12 d12) (t := 27) rfl rfl (by rfl) (fun w hb => ?_) (V6.out.up EY.out) (by rfl) fun ws hk hs => ?_
 ·obtain ⟨ce0, ce1, ce2⟩ := hb.c3; obtain ⟨f0, f1, f2⟩ := hb.f3; go_simp
 intro hbx
 replace T11 := hid ((T11.out.up F11.out).kb (V6.out.up EY.out) (by rfl) hk hs)
 replace T12 := hid ((T12.out.up F12.out).kb (V6.out.up EY.out) (by rfl) hk hs)
 replace E := hid ((E.out.trans EY.out).keptG hk HGV6.out)
 replace BX2 := hid ((BX2.out.up EY.out).kept hk (by simpa using HNV6BX2.out.symm))
 replace V5 := hid ((V5.out.up EY.out).kept hk (by simpa using HNV6V5.out.symm))
 replace V6 := hid hbx
 replace Q11 := hid ((Q11.out.up EY.out).kz hs)
 replace Q12 := hid ((Q12.out.up EY.out).kz hs)
 clear hk hs hbx
 replace EY := hid (Ext.refl ws)
 replace F11 := hid (Ext.refl ws)
 replace F12 := hid (Ext.refl ws)
 refine WE.done ?_
 go_upto_region 2 with (fail)
 refine wp_region_S [(0, 0), (1, 0), (2, 0), (3, 0), (4, 1), (5, 0), (6, 1), (7, 4)] fun wd hb => ?_
 replace EY := hid (EY.out.trans hb)
 replace F11 := hid (F11.out.trans hb)
 replace F12 := hid (F12.out.trans hb)
 clear hb
 refine WE.pp 15 (.pointer (some ⟨gV5, 1, none⟩)) ?_
 refine WE.qq 16 (.agg #[.bool g11, .slice B11 m11 d11]) rfl (fun w' hk => by obtain ⟨ce0, ce1, ce2⟩ := ((V5.out.up EY.out).up hk).c3; go_simp) ?_
 refine WE.pp 17 (.pointer (some ⟨gV6, 1, none⟩)) ?_
 refine WE.qq 18 (.agg #[.bool g12, .slice B12 m12 d12]) rfl (fun w' hk => by obtain ⟨ce0, ce1, ce2⟩ := ((V6.out.up EY.out).up hk).c3; go_simp) ?_
 refine WE.cc 19 ((rAdd_w (Q11.out.up EY.out).worth (Q12.out.up EY.out).worth (by have := HW.out; omega) (by have := HW.out; omega)).mono ?_)
 rintro e wn ⟨v1, rfl, x1, hb⟩
 obtain ⟨g13, A13, n13, c13, rfl⟩ := x1.shape
 refine ⟨_, rfl, hb, ?_⟩
 replace EY := hid (EY.out.trans hb)
 replace F11 := hid (F11.out.trans hb)
 replace F12 := hid (F12.out.trans hb)
 have Q13 := hid x1
 clear hb x1
 refine WE.pp 20 (.agg #[.slice none 0 0, .bool g13, .slice A13 n13 c13]) ?_
 simp only [Act.put, pA, pB, pC]
 refine WE.new (d := some 7) (cs := #[.slice none 0 0, .bool false, .slice none 0 0]) (t := 27) (v := fun g => (.pointer (some ⟨g, 0, none⟩))) rfl rfl (by rfl) (fun w => by go_simp) fun gV7 wv hx0 hbox hge => ?_
 have HNV7BX2 := hid (show gV7 ≠ (w.heap.size + 2) by have := (BX2.out.up EY.out).lt; omega)
 have HNV7V5 := hid (show gV7 ≠ gV5 by have := (V5.out.up EY.out).lt; omega)
 have HNV7V6 := hid (show gV7 ≠ gV6 by have := (V6.out.up EY.out).lt; omega)
 have HGV7 := hid (show w.heap.size ≤ gV7 by have := (E.out.trans EY.out).size; omega)
 replace EY := hid (EY.out.trans hx0)
 replace Q13 := hid (Q13.out.up hx0)
 replace F11 := hid (F11.out.trans hx0)
 replace F12 := hid (F12.out.trans hx0)
 have V7 : Hid (Box wv gV7 #[.slice none 0 0, .bool false, .slice none 0 0] 27) := hid hbox
 clear hx0 hbox hge
 simp only [Act.put, pA, pB, pC]
 refine WE.store3 (g := gV7) (x := .slice none 0 0) (y := .bool g13) (z := .slice A13 n13 c13) (t := 27) rfl rfl (by rfl) (fun w hb => ?_) V7.out (by rfl) fun ws hk hs => ?_
 ·obtain ⟨ce0, ce1, ce2⟩ := hb.c3; obtain ⟨f0, f1, f2⟩ := hb.f3; go_simp
 intro hbx
 replace T11 := hid ((T11.out.up F11.out).kb V7.out (by rfl) hk hs)
 replace T12 := hid ((T12.out.up F12.out).kb V7.out (by rfl) hk hs)
 replace E := hid ((E.out.trans EY.out).keptG hk HGV7.out)
 replace BX2 := hid ((BX2.out.up EY.out).kept hk (by simpa using HNV7BX2.out.symm))
 replace V5 := hid ((V5.out.up EY.out).kept hk (by simpa using HNV7V5.out.symm))
 replace V6 := hid ((V6.out.up EY.out).kept hk (by simpa using HNV7V6.out.symm))
 replace V7 := hid hbx
 replace Q13 := hid (Q13.out.kz hs)
 clear hk hs hbx
 replace EY := hid (Ext.refl ws)
 replace F11 := hid (Ext.refl ws)
 replace F12 := hid (Ext.refl ws)
 refine WE.done ?_
 go_upto_region 3 with (fail)
 refine wp_region_S [(0, 0), (1, 0)] fun wd hb => ?_
 replace EY := hid (EY.out.trans hb)
 replace F11 := hid (F11.out.trans hb)
 replace F12 := hid (F12.out.trans hb)
 clear hb
 refine WE.pp 8 (.int .i64 (0)) ?_
 refine WE.pp 9 (.int .i64 (0)) ?_
 simp only [Act.put, pA, pB, pC]
 refine WE.done ?_
 have HC1 := hid T11.out.count
 have hb1 : n11 ≤ 9223372036854775807 := T11.out.count.2.2
 have HC2 := hid T12.out.count
 have hb2 : n12 ≤ 9223372036854775807 := T12.out.count.2.2
 replace T12 := hid (T12.out.up F12.out)
 replace T11 := hid (T11.out.up F11.out)
 replace F11 := hid (Ext.refl wd)
 clear F12
 have hlt5 := (V5.out.up EY.out).lt
 have hlt6 := (V6.out.up EY.out).lt
 have hlt7 := (V7.out.up EY.out).lt
 have hltx := (BX2.out.up EY.out).lt
 have hszw := (E.out.trans EY.out).size
 obtain ⟨base, hbase, HB5', HB6', HB7', HBX2', HBW', HBA'⟩ : ∃ base : Nat, base ≤ _ ∧ gV5 < base ∧ gV6 < base ∧ gV7 < base ∧ (w.heap.size + 2) < base ∧ w.heap.size ≤ base ∧ wd.heap.size ≤ base := ⟨_, Nat.le_refl _, hlt5, hlt6, hlt7, hltx, hszw, Nat.le_refl _⟩
 have HBV5 := hid HB5'
 have HBV6 := hid HB6'
 have HBV7 := hid HB7'
 have HBBX2 := hid HBX2'
 have HBW := hid HBW'
 have BE11 := hid (T11.out.bel HBA')
 have BE12 := hid (T12.out.bel HBA')
 clear HB5' HB6' HB7' HBX2' HBW' HBA' hlt5 hlt6 hlt7 hltx hszw
 go_wp2
 go_loopw [8, 9] (fun x8 x9 wr => ∃ (i : Nat) (k : Nat) (Ao : Option Addr) (no : Nat) (co : Nat) (out : M.Tm), x8 = .int .i64 (i : Int) ∧ x9 = .int .i64 (k : Int) ∧ i ≤ n11 ∧ k ≤ n12 ∧ Ext w wr ∧ LTm wr (.slice A11 n11 c11) t W ∧ LTm wr (.slice A12 n12 c12) s W ∧ base ≤ wr.heap.size ∧ Box wr gV5 #[.slice A11 n11 c11, .bool g11, .slice B11 m11 d11] 27 ∧ Box wr gV6 #[.slice A12 n12 c12, .bool g12, .slice B12 m12 d12] 27 ∧ Box wr gV7 #[.slice Ao no co, .bool g13, .slice A13 n13 c13] 27 ∧ Box wr (w.heap.size + 2) #[.slice none 0 0, .bool false, .slice none 0 0] 27 ∧ IsZ wr (.agg #[.bool g13, .slice A13 n13 c13]) (κ + μ) (W + 1) ∧ LOwn base wr (.slice Ao no co) (out.map M.rawm) ∧ (∀ x ∈ out, (M.limbs x.2.natAbs).length ≤ W + 1) ∧ out ++ M.addT (t.drop i) (s.drop k) = M.addT t s ∧ out.length ≤ i + k) (fun x8 x9 _ => (n11 - (intOf x8).toNat) + (n12 - (intOf x9).toNat))
 case atStart => exact ⟨0, 0, none, 0, 0, [], rfl, rfl, Nat.zero_le _, Nat.zero_le _, (E.out.trans EY.out), T11.out, T12.out, hbase, (V5.out.up EY.out), (V6.out.up EY.out), (V7.out.up EY.out), (BX2.out.up EY.out), (Q13.out.up EY.out).wide (by omega), .inl ⟨rfl, rfl⟩, fun x hx => by simp at hx, by rw [List.drop_zero, List.drop_zero]; rfl, Nat.zero_le _⟩
 case round =>
  clear E EY F11 T11 T12 V5 V6 V7 BX2 Q13 Q11 Q12 R1 R2 BX0 BX1 hbase
  obtain ⟨i, k, Ao, no, co, out, rfl, rfl, hr0, hr1, hr2, hr3, hr4, hr5, hr6, hr7, hr8, hr9, hr10, hr11, hr12, hr13, hr14⟩ := hrel
  have E := hid hr2
  have T11 := hid hr3
  have T12 := hid hr4
  have HBH := hid hr5
  have V5 := hid hr6
  have V6 := hid hr7
  have V7 := hid hr8
  have BX2 := hid hr9
  have Q13 := hid hr10
  have OWN := hid hr11
  have HOW := hid hr12
  have HINV := hid hr13
  have HOL := hid hr14
  clear hr2 hr3 hr4 hr5 hr6 hr7 hr8 hr9 hr10 hr11 hr12 hr13 hr14
  have EY := hid (Ext.refl wr)
  have hi9 := hr0
  have hk9' := hr1
  clear hr0 hr1
  have F11 := hid (Ext.refl wr)
  have F12 := hid (Ext.refl wr)
  have FE := hid (Ext.refl wr)
  by_cases hi : i < n11
  ·have hid' : decide ((i : Int) < (n11 : Int)) = true := decide_eq_true (by omega)
   obtain ⟨x, hx⟩ : ∃ x, t[i]? = some x := ⟨_, List.getElem?_eq_getElem (by rw [← HC1.out.1]; omega)⟩
   obtain ⟨ad, ge, Ae, ne, ce, rfl, ka, kb, kc, kz⟩ := T11.out.get hx
   obtain ⟨xv, xc⟩ := x
   have HX := hid hx
   have KA := hid ka
   have KB := hid kb
   have KC := hid kc
   have QE := hid kz
   clear hx ka kb kc kz
   go_upto_region 4 with (fail)
   refine wp_region_S [(0, 0), (1, 0), (2, 0), (3, 0), (4, 0), (5, 0), (6, 0), (7, 0), (8, 0), (9, 0), (10, 0), (11, 0)] fun wd hb => ?_
   replace EY := hid (EY.out.trans hb)
   replace F11 := hid (F11.out.trans hb)
   replace F12 := hid (F12.out.trans hb)
   replace FE := hid (FE.out.trans hb)
   clear hb
   refine WE.pp 21 (.int .i64 (i : Int)) ?_
   refine WE.pp 22 (.pointer (some ⟨gV5, 0, none⟩)) ?_
   refine WE.qq 23 (.slice (some ad) n11 c11) rfl (fun w' hk => by have ce0 := ((V5.out.up EY.out).up hk).k 0; go_simp) ?_
   refine WE.pp 24 (.int .i64 (n11 : Int)) ?_
   refine WE.pp 25 (.bool true) ?_
   refine WE.pp 26 (.bool true) ?_
   simp only [Act.put, pA, pB, pC]
   refine WE.ss 27 ?_
   refine WE.ss 28 ?_
   refine WE.ss 29 ?_
   refine WE.ss 30 ?_
   refine WE.ss 31 ?_
   refine WE.pp 32 (.bool true) ?_
   simp only [Act.put, pA, pB, pC]
   refine WE.done ?_
   by_cases hk : k < n12
   ·have hke : ((k : Int) == (n12 : Int)) = false := by rw [beq_eq_false_iff_ne]; omega
    have hie : ((i : Int) == (n11 : Int)) = false := by rw [beq_eq_false_iff_ne]; omega
    obtain ⟨y, hy⟩ : ∃ y, s[k]? = some y := ⟨_, List.getElem?_eq_getElem (by rw [← HC2.out.1]; omega)⟩
    obtain ⟨ap, gf, Af, nf, cf, rfl, ja, jb, jc, jz⟩ := T12.out.get hy
    obtain ⟨yv, yc⟩ := y
    have HY := hid hy
    have JA := hid ja
    have JB := hid jb
    have JC := hid jc
    have QF := hid jz
    clear hy ja jb jc jz
    by_cases hv : xv < yv
    ·have hvd : decide (xv < yv) = true := decide_eq_true hv
     go_upto_region 10 with (fail)
     refine wp_region_D [(0, 0), (1, 0), (2, 0), (3, 0), (4, 0), (5, 0), (6, 0), (7, 0), (8, 0), (9, 0), (10, 0), (11, 0), (12, 0), (13, 0), (14, 0), (15, 0), (16, 0), (17, 0), (18, 0), (19, 0), (20, 0), (21, 0), (22, 0), (23, 0), (24, 0), (25, 0), (26, 0), (27, 0)] fun wd hb => ?_
     replace EY := hid (EY.out.trans hb)
     replace F11 := hid (F11.out.trans hb)
     replace F12 := hid (F12.out.trans hb)
     replace FE := hid (FE.out.trans hb)
     clear hb
     refine WE.pp 67 (.int .i64 (k : Int)) ?_
     refine WE.pp 68 (.pointer (some ⟨gV6, 0, none⟩)) ?_
     refine WE.qq 69 (.slice (some ap) n12 c12) rfl (fun w' hk => by have ce0 := ((V6.out.up EY.out).up hk).k 0; go_simp) ?_
     refine WE.pp 70 (.int .i64 (n12 : Int)) ?_
     refine WE.pp 71 (.bool false) ?_
     refine WE.pp 72 (.bool false) ?_
     simp only [Act.put, pA, pB, pC]
     refine WE.pp 73 (.int .i64 (i : Int)) ?_
     refine WE.pp 74 (.pointer (some ⟨gV5, 0, none⟩)) ?_
     refine WE.qq 75 (.slice (some ad) n11 c11) rfl (fun w' hk => by have ce0 := ((V5.out.up EY.out).up hk).k 0; go_simp) ?_
     refine WE.pp 76 (.int .i64 (n11 : Int)) ?_
     refine WE.pp 77 (.bool true) ?_
     refine WE.pp 78 (.bool true) ?_
     simp only [Act.put, pA, pB, pC]
     refine WE.pp 79 (.pointer (some ⟨gV5, 0, none⟩)) ?_
     refine WE.qq 80 (.slice (some ad) n11 c11) rfl (fun w' hk => by have ce0 := ((V5.out.up EY.out).up hk).k 0; go_simp) ?_
     refine WE.pp 81 (.int .i64 (i : Int)) ?_
     refine WE.pp 82 (.pointer (some (ad.add (i * 3)))) ?_
     refine WE.pp 83 (.pointer (some (ad.add (i * 3)))) ?_
     refine WE.qq 84 (.int .i64 xv) rfl (fun w' hk => by have ce0 : w'.cell? (ad.add (i * 3)) = some (.int .i64 xv) := (KA.out.up FE.out).up hk; go_simp) ?_
     simp only [Act.put, pA, pB, pC]
     refine WE.pp 85 (.pointer (some ⟨gV6, 0, none⟩)) ?_
     refine WE.qq 86 (.slice (some ap) n12 c12) rfl (fun w' hk => by have ce0 := ((V6.out.up EY.out).up hk).k 0; go_simp) ?_
     refine WE.pp 87 (.int .i64 (k : Int)) ?_
     refine WE.pp 88 (.pointer (some (ap.add (k * 3)))) ?_
     refine WE.pp 89 (.pointer (some (ap.add (k * 3)))) ?_
     refine WE.qq 90 (.int .i64 yv) rfl (fun w' hk => by have ce0 : w'.cell? (ap.add (k * 3)) = some (.int .i64 yv) := (JA.out.up FE.out).up hk; go_simp) ?_
     simp only [Act.put, pA, pB, pC]
     refine WE.pp 91 (.bool true) ?_
     refine WE.pp 92 (.bool true) ?_
     refine WE.pp 93 (.bool true) ?_
     refine WE.pp 66 (.bool true) ?_
     simp only [Act.put, pA, pB, pC]
     refine WE.done ?_
     go_upto_region 11 with (fail)
     refine wp_region_X [gV7, ownBlk base (.slice Ao no co)] [(0, 0), (1, 0), (2, 0), (3, 0), (4, 0), (5, 0), (6, 0), (7, 1), (8, 4), (9, 5), (10, 4)] (fun _ => (0, #[])) rfl (by kernel_rfl) (by intro j hj; cases hj) (fun _ _ d _ _ => by cases d <;> exact Iff.rfl) fun wd hb => ?_
     replace EY := hid (EY.out.trans hb)
     replace F11 := hid (F11.out.trans hb)
     replace F12 := hid (F12.out.trans hb)
     replace FE := hid (FE.out.trans hb)
     clear hb
     have HL2BX2 := hid (BX2.out.up EY.out).lt
     have HL2V5 := hid (V5.out.up EY.out).lt
     have HL2V6 := hid (V6.out.up EY.out).lt
     have HL2V7 := hid (V7.out.up EY.out).lt
     have HW2 := hid (show w.heap.size ≤ wd.heap.size from (E.out.trans EY.out).size)
     refine WX.pp 94 (.pointer (some ⟨gV7, 0, none⟩)) ?_
     refine WX.qq 95 (.slice Ao no co) rfl (fun w' hk => by have ce0 := ((V7.out.up EY.out).up hk).k 0; go_simp) ?_
     refine WX.pp 96 (.pointer (some ⟨gV5, 0, none⟩)) ?_
     refine WX.qq 97 (.slice (some ad) n11 c11) rfl (fun w' hk => by have ce0 := ((V5.out.up EY.out).up hk).k 0; go_simp) ?_
     refine WX.pp 98 (.int .i64 (i : Int)) ?_
     refine WX.pp 99 (.pointer (some (ad.add (i * 3)))) ?_
     simp only [Act.put, pA, pB, pC]
     refine WX.qq 100 (.agg #[.int .i64 xv, .bool ge, .slice Ae ne ce]) rfl (fun w' hk => by have ce0 : w'.cell? (ad.add (i * 3)) = some (.int .i64 xv) := (KA.out.up FE.out).up hk; have ce1 : w'.cell? ⟨(ad.add (i * 3)).block, (ad.add (i * 3)).off + 1, none⟩ = some (.bool ge) := (KB.out.up FE.out).up hk; have ce2 : w'.cell? ⟨(ad.add (i * 3)).block, (ad.add (i * 3)).off + 2, none⟩ = some (.slice Ae ne ce) := (KC.out.up FE.out).up hk; go_simp) ?_
     simp only [Act.put, pA, pB, pC]
     refine WX.new (d := some 101) (cs := #[.int .i64 xv, .bool ge, .slice Ae ne ce]) (t := 56) (v := fun g => (.slice (some ⟨g, 0, none⟩) 1 1)) rfl rfl (by rfl) (fun w => by go_simp) fun gL1 wv hx0 hbox hge => ?_
     replace EY := hid (EY.out.trans hx0)
     replace F11 := hid (F11.out.trans hx0)
     replace F12 := hid (F12.out.trans hx0)
     replace FE := hid (FE.out.trans hx0)
     have L1 : Hid (Box wv gL1 #[.int .i64 xv, .bool ge, .slice Ae ne ce] 56) := hid hbox
     clear hx0 hbox hge
     simp only [Act.put, pA, pB, pC]
     clear FE
     obtain ⟨v9, wk, hrun, ho9, hk9, hs9⟩ := appL_run (V := xv) (OWN.out.up EY.out) L1.out (QE.out.up EY.out).fields.2.1 (by rw [List.length_map]; have h1 := HOL.out; have h2 := HN.out; have h3 := HM.out; have h4 := HC1.out.1; have h5 := HC2.out.1; omega) (Nat.le_trans HBH.out EY.out.size) 22
     obtain ⟨A9, n9, c9, rfl⟩ := ho9.shape
     have HBLK := hid (OWN.out.up EY.out).blk
     refine WX.actK (d := some 102) rfl rfl (by rfl) (exec_app (.tmp 95) (.tmp 101) rfl rfl rfl hrun) (hk9.keptB (.inl (by simp))) ?_
     have HQ9 := hid (QE.out.up EY.out).fields
     replace E := hid (((E.out.trans EY.out)).own hk9 HBLK.out HBW.out)
     replace V5 := hid (Kept.box (X := []) ((V5.out.up EY.out)) hk9 HBLK.out HBV5.out)
     replace V6 := hid (Kept.box (X := []) ((V6.out.up EY.out)) hk9 HBLK.out HBV6.out)
     replace V7 := hid (Kept.box (X := []) ((V7.out.up EY.out)) hk9 HBLK.out HBV7.out)
     replace BX2 := hid (Kept.box (X := []) ((BX2.out.up EY.out)) hk9 HBLK.out HBBX2.out)
     replace Q13 := hid ((Q13.out.up EY.out).kz hs9)
     replace QE := hid ((QE.out.up EY.out).kz hs9)
     replace QF := hid ((QF.out.up EY.out).kz hs9)
     replace T11 := hid ((T11.out.up F11.out).keptB BE11.out hk9 HBLK.out hs9)
     replace F11 := hid (Ext.refl wk)
     replace T12 := hid ((T12.out.up F12.out).keptB BE12.out hk9 HBLK.out hs9)
     replace F12 := hid (Ext.refl wk)
     have HSZ := hid hk9.1.size
     replace HBH := hid (Nat.le_trans HBH.out (Nat.le_trans EY.out.size HSZ.out))
     replace OWN := hid ho9
     replace EY := hid (Ext.refl wk)
     clear hrun ho9 hk9 hs9 HBLK HSZ L1
     refine WX.any (d := some 103) rfl rfl (by rfl) (v := (.pointer (some ⟨gV7, 0, none⟩))) (fun w' hk => by go_simp) ?_
     simp only [Act.put, pA, pB, pC]
     refine WX.storeAt (g := gV7) (off := 0) (cs' := #[.slice A9 n9 c9, .bool g13, .slice A13 n13 c13]) (y := .slice A9 n9 c9) (t := 27) rfl rfl (by rfl) (fun w hb => ?_) (V7.out.up EY.out) (by rfl) rfl (.inl (by simp)) fun ws hk hs hbx => ?_
     ·have ce0 := hb.k 0; have f0 := hb.free 0; go_simp
     replace HBH := hid (Nat.le_trans HBH.out (Nat.le_trans EY.out.size hk.1.size))
     replace OWN := hid ((OWN.out.up EY.out).kept hk hs HBV7.out)
     replace T11 := hid ((T11.out.up F11.out).kb (V7.out.up EY.out) (by rfl) hk hs)
     replace T12 := hid ((T12.out.up F12.out).kb (V7.out.up EY.out) (by rfl) hk hs)
     replace E := hid ((E.out.trans EY.out).keptG hk HGV7.out)
     replace BX2 := hid ((BX2.out.up EY.out).kept hk (by simpa using HNV7BX2.out.symm))
     replace V5 := hid ((V5.out.up EY.out).kept hk (by simpa using HNV7V5.out.symm))
     replace V6 := hid ((V6.out.up EY.out).kept hk (by simpa using HNV7V6.out.symm))
     replace V7 := hid hbx
     replace Q13 := hid ((Q13.out.up EY.out).kz hs)
     replace QE := hid ((QE.out.up EY.out).kz hs)
     replace QF := hid ((QF.out.up EY.out).kz hs)
     clear hk hs hbx
     replace EY := hid (Ext.refl ws)
     replace F11 := hid (Ext.refl ws)
     replace F12 := hid (Ext.refl ws)
     refine WX.done ?_
     have hwi : IntKind.i64.wrap ((i : Int) + 1) = (i : Int) + 1 := by rw [IntKind.wrap_i64]; omega
     go_upto_region 12 with (fail)
     refine wp_region_S [(0, 0), (1, 0), (2, 0)] fun wd hb => ?_
     replace EY := hid (EY.out.trans hb)
     replace F11 := hid (F11.out.trans hb)
     replace F12 := hid (F12.out.trans hb)
     clear hb
     refine WE.pp 104 (.int .i64 (i : Int)) ?_
     refine WE.pp 105 (.int .i64 ((i : Int) + 1)) ?_
     refine WE.pp 8 (.int .i64 ((i : Int) + 1)) ?_
     simp only [Act.put, pA, pB, pC]
     refine WE.done ?_
     go_wp2
     go_roundw
     case rel => exact ⟨i + 1, k, A9, n9, c9, out ++ [(xv, xc)], by go_num, rfl, by omega, by omega, (E.out.trans EY.out), T11.out.up F11.out, T12.out.up F12.out, Nat.le_trans HBH.out EY.out.size, (V5.out.up EY.out), (V6.out.up EY.out), (V7.out.up EY.out), (BX2.out.up EY.out), (Q13.out.up EY.out), by rw [List.map_append]; have := (OWN.out.up EY.out); rw [HQ9.out.1] at this; exact this, snoc_width HOW.out HQ9.out.2.2 (by omega), by rw [M.add_left HX.out HY.out hv]; exact HINV.out, by rw [List.length_append]; have := HOL.out; simp; omega⟩
     case measure => simp [intOf]; all_goals omega
    have hvd : decide (xv < yv) = false := decide_eq_false hv
    by_cases hu : yv < xv
    ·have hud : decide (yv < xv) = true := decide_eq_true hu
     go_upto_region 10 with (fail)
     refine wp_region_D [(0, 0), (1, 0), (2, 0), (3, 0), (4, 0), (5, 0), (6, 0), (7, 0), (8, 0), (9, 0), (10, 0), (11, 0), (12, 0), (13, 0), (14, 0), (15, 0), (16, 0), (17, 0), (18, 0), (19, 0), (20, 0), (21, 0), (22, 0), (23, 0), (24, 0), (25, 0), (26, 0), (27, 0)] fun wd hb => ?_
     replace EY := hid (EY.out.trans hb)
     replace F11 := hid (F11.out.trans hb)
     replace F12 := hid (F12.out.trans hb)
     replace FE := hid (FE.out.trans hb)
     clear hb
     refine WE.pp 67 (.int .i64 (k : Int)) ?_
     refine WE.pp 68 (.pointer (some ⟨gV6, 0, none⟩)) ?_
     refine WE.qq 69 (.slice (some ap) n12 c12) rfl (fun w' hk => by have ce0 := ((V6.out.up EY.out).up hk).k 0; go_simp) ?_
     refine WE.pp 70 (.int .i64 (n12 : Int)) ?_
     refine WE.pp 71 (.bool false) ?_
     refine WE.pp 72 (.bool false) ?_
     simp only [Act.put, pA, pB, pC]
     refine WE.pp 73 (.int .i64 (i : Int)) ?_
     refine WE.pp 74 (.pointer (some ⟨gV5, 0, none⟩)) ?_
     refine WE.qq 75 (.slice (some ad) n11 c11) rfl (fun w' hk => by have ce0 := ((V5.out.up EY.out).up hk).k 0; go_simp) ?_
     refine WE.pp 76 (.int .i64 (n11 : Int)) ?_
     refine WE.pp 77 (.bool true) ?_
     refine WE.pp 78 (.bool true) ?_
     simp only [Act.put, pA, pB, pC]
     refine WE.pp 79 (.pointer (some ⟨gV5, 0, none⟩)) ?_
     refine WE.qq 80 (.slice (some ad) n11 c11) rfl (fun w' hk => by have ce0 := ((V5.out.up EY.out).up hk).k 0; go_simp) ?_
     refine WE.pp 81 (.int .i64 (i : Int)) ?_
     refine WE.pp 82 (.pointer (some (ad.add (i * 3)))) ?_
     refine WE.pp 83 (.pointer (some (ad.add (i * 3)))) ?_
     refine WE.qq 84 (.int .i64 xv) rfl (fun w' hk => by have ce0 : w'.cell? (ad.add (i * 3)) = some (.int .i64 xv) := (KA.out.up FE.out).up hk; go_simp) ?_
     simp only [Act.put, pA, pB, pC]
     refine WE.pp 85 (.pointer (some ⟨gV6, 0, none⟩)) ?_
     refine WE.qq 86 (.slice (some ap) n12 c12) rfl (fun w' hk => by have ce0 := ((V6.out.up EY.out).up hk).k 0; go_simp) ?_
     refine WE.pp 87 (.int .i64 (k : Int)) ?_
     refine WE.pp 88 (.pointer (some (ap.add (k * 3)))) ?_
     refine WE.pp 89 (.pointer (some (ap.add (k * 3)))) ?_
     refine WE.qq 90 (.int .i64 yv) rfl (fun w' hk => by have ce0 : w'.cell? (ap.add (k * 3)) = some (.int .i64 yv) := (JA.out.up FE.out).up hk; go_simp) ?_
     simp only [Act.put, pA, pB, pC]
     refine WE.pp 91 (.bool false) ?_
     refine WE.pp 92 (.bool false) ?_
     refine WE.pp 93 (.bool false) ?_
     refine WE.pp 66 (.bool false) ?_
     simp only [Act.put, pA, pB, pC]
     refine WE.done ?_
     go_upto_region 13 with (fail)
     refine wp_region_D [(0, 0), (1, 0), (2, 0), (3, 0), (4, 0), (5, 0), (6, 0), (7, 0), (8, 0), (9, 0), (10, 0), (11, 0), (12, 0), (13, 0), (14, 0), (15, 0), (16, 0), (17, 0), (18, 0), (19, 0), (20, 0)] fun wd hb => ?_
     replace EY := hid (EY.out.trans hb)
     replace F11 := hid (F11.out.trans hb)
     replace F12 := hid (F12.out.trans hb)
     replace FE := hid (FE.out.trans hb)
     clear hb
     refine WE.pp 107 (.int .i64 (i : Int)) ?_
     refine WE.pp 108 (.pointer (some ⟨gV5, 0, none⟩)) ?_
     refine WE.qq 109 (.slice (some ad) n11 c11) rfl (fun w' hk => by have ce0 := ((V5.out.up EY.out).up hk).k 0; go_simp) ?_
     refine WE.pp 110 (.int .i64 (n11 : Int)) ?_
     refine WE.pp 111 (.bool false) ?_
     refine WE.pp 112 (.bool false) ?_
     simp only [Act.put, pA, pB, pC]
     refine WE.pp 113 (.pointer (some ⟨gV6, 0, none⟩)) ?_
     refine WE.qq 114 (.slice (some ap) n12 c12) rfl (fun w' hk => by have ce0 := ((V6.out.up EY.out).up hk).k 0; go_simp) ?_
     refine WE.pp 115 (.int .i64 (k : Int)) ?_
     refine WE.pp 116 (.pointer (some (ap.add (k * 3)))) ?_
     refine WE.pp 117 (.pointer (some (ap.add (k * 3)))) ?_
     refine WE.qq 118 (.int .i64 yv) rfl (fun w' hk => by have ce0 : w'.cell? (ap.add (k * 3)) = some (.int .i64 yv) := (JA.out.up FE.out).up hk; go_simp) ?_
     simp only [Act.put, pA, pB, pC]
     refine WE.pp 119 (.pointer (some ⟨gV5, 0, none⟩)) ?_
     refine WE.qq 120 (.slice (some ad) n11 c11) rfl (fun w' hk => by have ce0 := ((V5.out.up EY.out).up hk).k 0; go_simp) ?_
     refine WE.pp 121 (.int .i64 (i : Int)) ?_
     refine WE.pp 122 (.pointer (some (ad.add (i * 3)))) ?_
     refine WE.pp 123 (.pointer (some (ad.add (i * 3)))) ?_
     refine WE.qq 124 (.int .i64 xv) rfl (fun w' hk => by have ce0 : w'.cell? (ad.add (i * 3)) = some (.int .i64 xv) := (KA.out.up FE.out).up hk; go_simp) ?_
     simp only [Act.put, pA, pB, pC]
     refine WE.pp 125 (.bool true) ?_
     refine WE.pp 126 (.bool true) ?_
     refine WE.pp 106 (.bool true) ?_
     simp only [Act.put, pA, pB, pC]
     refine WE.done ?_
     go_upto_region 14 with (fail)
     refine wp_region_X [gV7, ownBlk base (.slice Ao no co)] [(0, 0), (1, 0), (2, 0), (3, 0), (4, 0), (5, 0), (6, 0), (7, 1), (8, 4), (9, 5), (10, 4)] (fun _ => (0, #[])) rfl (by kernel_rfl) (by intro j hj; cases hj) (fun _ _ d _ _ => by cases d <;> exact Iff.rfl) fun wd hb => ?_
     replace EY := hid (EY.out.trans hb)
     replace F11 := hid (F11.out.trans hb)
     replace F12 := hid (F12.out.trans hb)
     replace FE := hid (FE.out.trans hb)
     clear hb
     have HL2BX2 := hid (BX2.out.up EY.out).lt
     have HL2V5 := hid (V5.out.up EY.out).lt
     have HL2V6 := hid (V6.out.up EY.out).lt
     have HL2V7 := hid (V7.out.up EY.out).lt
     have HW2 := hid (show w.heap.size ≤ wd.heap.size from (E.out.trans EY.out).size)
     refine WX.pp 127 (.pointer (some ⟨gV7, 0, none⟩)) ?_
     refine WX.qq 128 (.slice Ao no co) rfl (fun w' hk => by have ce0 := ((V7.out.up EY.out).up hk).k 0; go_simp) ?_
     refine WX.pp 129 (.pointer (some ⟨gV6, 0, none⟩)) ?_
     refine WX.qq 130 (.slice (some ap) n12 c12) rfl (fun w' hk => by have ce0 := ((V6.out.up EY.out).up hk).k 0; go_simp) ?_
     refine WX.pp 131 (.int .i64 (k : Int)) ?_
     refine WX.pp 132 (.pointer (some (ap.add (k * 3)))) ?_
     simp only [Act.put, pA, pB, pC]
     refine WX.qq 133 (.agg #[.int .i64 yv, .bool gf, .slice Af nf cf]) rfl (fun w' hk => by have ce0 : w'.cell? (ap.add (k * 3)) = some (.int .i64 yv) := (JA.out.up FE.out).up hk; have ce1 : w'.cell? ⟨(ap.add (k * 3)).block, (ap.add (k * 3)).off + 1, none⟩ = some (.bool gf) := (JB.out.up FE.out).up hk; have ce2 : w'.cell? ⟨(ap.add (k * 3)).block, (ap.add (k * 3)).off + 2, none⟩ = some (.slice Af nf cf) := (JC.out.up FE.out).up hk; go_simp) ?_
     simp only [Act.put, pA, pB, pC]
     refine WX.new (d := some 134) (cs := #[.int .i64 yv, .bool gf, .slice Af nf cf]) (t := 56) (v := fun g => (.slice (some ⟨g, 0, none⟩) 1 1)) rfl rfl (by rfl) (fun w => by go_simp) fun gL1 wv hx0 hbox hge => ?_
     replace EY := hid (EY.out.trans hx0)
     replace F11 := hid (F11.out.trans hx0)
     replace F12 := hid (F12.out.trans hx0)
     replace FE := hid (FE.out.trans hx0)
     have L1 : Hid (Box wv gL1 #[.int .i64 yv, .bool gf, .slice Af nf cf] 56) := hid hbox
     clear hx0 hbox hge
     simp only [Act.put, pA, pB, pC]
     clear FE
     obtain ⟨v9, wk, hrun, ho9, hk9, hs9⟩ := appL_run (V := yv) (OWN.out.up EY.out) L1.out (QF.out.up EY.out).fields.2.1 (by rw [List.length_map]; have h1 := HOL.out; have h2 := HN.out; have h3 := HM.out; have h4 := HC1.out.1; have h5 := HC2.out.1; omega) (Nat.le_trans HBH.out EY.out.size) 22
     obtain ⟨A9, n9, c9, rfl⟩ := ho9.shape
     have HBLK := hid (OWN.out.up EY.out).blk
     refine WX.actK (d := some 135) rfl rfl (by rfl) (exec_app (.tmp 128) (.tmp 134) rfl rfl rfl hrun) (hk9.keptB (.inl (by simp))) ?_
     have HQ9 := hid (QF.out.up EY.out).fields
     replace E := hid (((E.out.trans EY.out)).own hk9 HBLK.out HBW.out)
     replace V5 := hid (Kept.box (X := []) ((V5.out.up EY.out)) hk9 HBLK.out HBV5.out)
     replace V6 := hid (Kept.box (X := []) ((V6.out.up EY.out)) hk9 HBLK.out HBV6.out)
     replace V7 := hid (Kept.box (X := []) ((V7.out.up EY.out)) hk9 HBLK.out HBV7.out)
     replace BX2 := hid (Kept.box (X := []) ((BX2.out.up EY.out)) hk9 HBLK.out HBBX2.out)
     replace Q13 := hid ((Q13.out.up EY.out).kz hs9)
     replace QE := hid ((QE.out.up EY.out).kz hs9)
     replace QF := hid ((QF.out.up EY.out).kz hs9)
     replace T11 := hid ((T11.out.up F11.out).keptB BE11.out hk9 HBLK.out hs9)
     replace F11 := hid (Ext.refl wk)
     replace T12 := hid ((T12.out.up F12.out).keptB BE12.out hk9 HBLK.out hs9)
     replace F12 := hid (Ext.refl wk)
     have HSZ := hid hk9.1.size
     replace HBH := hid (Nat.le_trans HBH.out (Nat.le_trans EY.out.size HSZ.out))
     replace OWN := hid ho9
     replace EY := hid (Ext.refl wk)
     clear hrun ho9 hk9 hs9 HBLK HSZ L1
     refine WX.any (d := some 136) rfl rfl (by rfl) (v := (.pointer (some ⟨gV7, 0, none⟩))) (fun w' hk => by go_simp) ?_
     simp only [Act.put, pA, pB, pC]
     refine WX.storeAt (g := gV7) (off := 0) (cs' := #[.slice A9 n9 c9, .bool g13, .slice A13 n13 c13]) (y := .slice A9 n9 c9) (t := 27) rfl rfl (by rfl) (fun w hb => ?_) (V7.out.up EY.out) (by rfl) rfl (.inl (by simp)) fun ws hk hs hbx => ?_
     ·have ce0 := hb.k 0; have f0 := hb.free 0; go_simp
     replace HBH := hid (Nat.le_trans HBH.out (Nat.le_trans EY.out.size hk.1.size))
     replace OWN := hid ((OWN.out.up EY.out).kept hk hs HBV7.out)
     replace T11 := hid ((T11.out.up F11.out).kb (V7.out.up EY.out) (by rfl) hk hs)
     replace T12 := hid ((T12.out.up F12.out).kb (V7.out.up EY.out) (by rfl) hk hs)
     replace E := hid ((E.out.trans EY.out).keptG hk HGV7.out)
     replace BX2 := hid ((BX2.out.up EY.out).kept hk (by simpa using HNV7BX2.out.symm))
     replace V5 := hid ((V5.out.up EY.out).kept hk (by simpa using HNV7V5.out.symm))
     replace V6 := hid ((V6.out.up EY.out).kept hk (by simpa using HNV7V6.out.symm))
     replace V7 := hid hbx
     replace Q13 := hid ((Q13.out.up EY.out).kz hs)
     replace QE := hid ((QE.out.up EY.out).kz hs)
     replace QF := hid ((QF.out.up EY.out).kz hs)
     clear hk hs hbx
     replace EY := hid (Ext.refl ws)
     replace F11 := hid (Ext.refl ws)
     replace F12 := hid (Ext.refl ws)
     refine WX.done ?_
     have hwk : IntKind.i64.wrap ((k : Int) + 1) = (k : Int) + 1 := by rw [IntKind.wrap_i64]; omega
     go_upto_region 15 with (fail)
     refine wp_region_S [(0, 0), (1, 0), (2, 0)] fun wd hb => ?_
     replace EY := hid (EY.out.trans hb)
     replace F11 := hid (F11.out.trans hb)
     replace F12 := hid (F12.out.trans hb)
     clear hb
     refine WE.pp 137 (.int .i64 (k : Int)) ?_
     refine WE.pp 138 (.int .i64 ((k : Int) + 1)) ?_
     refine WE.pp 9 (.int .i64 ((k : Int) + 1)) ?_
     simp only [Act.put, pA, pB, pC]
     refine WE.done ?_
     go_wp2
     go_roundw
     case rel => exact ⟨i, k + 1, A9, n9, c9, out ++ [(yv, yc)], rfl, by go_num, by omega, by omega, (E.out.trans EY.out), T11.out.up F11.out, T12.out.up F12.out, Nat.le_trans HBH.out EY.out.size, (V5.out.up EY.out), (V6.out.up EY.out), (V7.out.up EY.out), (BX2.out.up EY.out), (Q13.out.up EY.out), by rw [List.map_append]; have := (OWN.out.up EY.out); rw [HQ9.out.1] at this; exact this, snoc_width HOW.out HQ9.out.2.2 (by omega), by rw [M.add_right HX.out HY.out hu]; exact HINV.out, by rw [List.length_append]; have := HOL.out; simp; omega⟩
     case measure => simp [intOf]; all_goals omega
    ·have hud : decide (yv < xv) = false := decide_eq_false hu
     obtain rfl : xv = yv := by omega
     obtain ⟨sg, hsg⟩ : ∃ g : Int, (xc + yc).sign = g := ⟨_, rfl⟩
     have HSG := hid hsg
     go_upto_region 10 with (fail)
     refine wp_region_D [(0, 0), (1, 0), (2, 0), (3, 0), (4, 0), (5, 0), (6, 0), (7, 0), (8, 0), (9, 0), (10, 0), (11, 0), (12, 0), (13, 0), (14, 0), (15, 0), (16, 0), (17, 0), (18, 0), (19, 0), (20, 0), (21, 0), (22, 0), (23, 0), (24, 0), (25, 0), (26, 0), (27, 0)] fun wd hb => ?_
     replace EY := hid (EY.out.trans hb)
     replace F11 := hid (F11.out.trans hb)
     replace F12 := hid (F12.out.trans hb)
     replace FE := hid (FE.out.trans hb)
     clear hb
     refine WE.pp 67 (.int .i64 (k : Int)) ?_
     refine WE.pp 68 (.pointer (some ⟨gV6, 0, none⟩)) ?_
     refine WE.qq 69 (.slice (some ap) n12 c12) rfl (fun w' hk => by have ce0 := ((V6.out.up EY.out).up hk).k 0; go_simp) ?_
     refine WE.pp 70 (.int .i64 (n12 : Int)) ?_
     refine WE.pp 71 (.bool false) ?_
     refine WE.pp 72 (.bool false) ?_
     simp only [Act.put, pA, pB, pC]
     refine WE.pp 73 (.int .i64 (i : Int)) ?_
     refine WE.pp 74 (.pointer (some ⟨gV5, 0, none⟩)) ?_
     refine WE.qq 75 (.slice (some ad) n11 c11) rfl (fun w' hk => by have ce0 := ((V5.out.up EY.out).up hk).k 0; go_simp) ?_
     refine WE.pp 76 (.int .i64 (n11 : Int)) ?_
     refine WE.pp 77 (.bool true) ?_
     refine WE.pp 78 (.bool true) ?_
     simp only [Act.put, pA, pB, pC]
     refine WE.pp 79 (.pointer (some ⟨gV5, 0, none⟩)) ?_
     refine WE.qq 80 (.slice (some ad) n11 c11) rfl (fun w' hk => by have ce0 := ((V5.out.up EY.out).up hk).k 0; go_simp) ?_
     refine WE.pp 81 (.int .i64 (i : Int)) ?_
     refine WE.pp 82 (.pointer (some (ad.add (i * 3)))) ?_
     refine WE.pp 83 (.pointer (some (ad.add (i * 3)))) ?_
     refine WE.qq 84 (.int .i64 xv) rfl (fun w' hk => by have ce0 : w'.cell? (ad.add (i * 3)) = some (.int .i64 xv) := (KA.out.up FE.out).up hk; go_simp) ?_
     simp only [Act.put, pA, pB, pC]
     refine WE.pp 85 (.pointer (some ⟨gV6, 0, none⟩)) ?_
     refine WE.qq 86 (.slice (some ap) n12 c12) rfl (fun w' hk => by have ce0 := ((V6.out.up EY.out).up hk).k 0; go_simp) ?_
     refine WE.pp 87 (.int .i64 (k : Int)) ?_
     refine WE.pp 88 (.pointer (some (ap.add (k * 3)))) ?_
     refine WE.pp 89 (.pointer (some (ap.add (k * 3)))) ?_
     refine WE.qq 90 (.int .i64 xv) rfl (fun w' hk => by have ce0 : w'.cell? (ap.add (k * 3)) = some (.int .i64 xv) := (JA.out.up FE.out).up hk; go_simp) ?_
     simp only [Act.put, pA, pB, pC]
     refine WE.pp 91 (.bool false) ?_
     refine WE.pp 92 (.bool false) ?_
     refine WE.pp 93 (.bool false) ?_
     refine WE.pp 66 (.bool false) ?_
     simp only [Act.put, pA, pB, pC]
     refine WE.done ?_
     go_upto_region 13 with (fail)
     refine wp_region_D [(0, 0), (1, 0), (2, 0), (3, 0), (4, 0), (5, 0), (6, 0), (7, 0), (8, 0), (9, 0), (10, 0), (11, 0), (12, 0), (13, 0), (14, 0), (15, 0), (16, 0), (17, 0), (18, 0), (19, 0), (20, 0)] fun wd hb => ?_
     replace EY := hid (EY.out.trans hb)
     replace F11 := hid (F11.out.trans hb)
     replace F12 := hid (F12.out.trans hb)
     replace FE := hid (FE.out.trans hb)
     clear hb
     refine WE.pp 107 (.int .i64 (i : Int)) ?_
     refine WE.pp 108 (.pointer (some ⟨gV5, 0, none⟩)) ?_
     refine WE.qq 109 (.slice (some ad) n11 c11) rfl (fun w' hk => by have ce0 := ((V5.out.up EY.out).up hk).k 0; go_simp) ?_
     refine WE.pp 110 (.int .i64 (n11 : Int)) ?_
     refine WE.pp 111 (.bool false) ?_
     refine WE.pp 112 (.bool false) ?_
     simp only [Act.put, pA, pB, pC]
     refine WE.pp 113 (.pointer (some ⟨gV6, 0, none⟩)) ?_
     refine WE.qq 114 (.slice (some ap) n12 c12) rfl (fun w' hk => by have ce0 := ((V6.out.up EY.out).up hk).k 0; go_simp) ?_
     refine WE.pp 115 (.int .i64 (k : Int)) ?_
     refine WE.pp 116 (.pointer (some (ap.add (k * 3)))) ?_
     refine WE.pp 117 (.pointer (some (ap.add (k * 3)))) ?_
     refine WE.qq 118 (.int .i64 xv) rfl (fun w' hk => by have ce0 : w'.cell? (ap.add (k * 3)) = some (.int .i64 xv) := (JA.out.up FE.out).up hk; go_simp) ?_
     simp only [Act.put, pA, pB, pC]
     refine WE.pp 119 (.pointer (some ⟨gV5, 0, none⟩)) ?_
     refine WE.qq 120 (.slice (some ad) n11 c11) rfl (fun w' hk => by have ce0 := ((V5.out.up EY.out).up hk).k 0; go_simp) ?_
     refine WE.pp 121 (.int .i64 (i : Int)) ?_
     refine WE.pp 122 (.pointer (some (ad.add (i * 3)))) ?_
     refine WE.pp 123 (.pointer (some (ad.add (i * 3)))) ?_
     refine WE.qq 124 (.int .i64 xv) rfl (fun w' hk => by have ce0 : w'.cell? (ad.add (i * 3)) = some (.int .i64 xv) := (KA.out.up FE.out).up hk; go_simp) ?_
     simp only [Act.put, pA, pB, pC]
     refine WE.pp 125 (.bool false) ?_
     refine WE.pp 126 (.bool false) ?_
     refine WE.pp 106 (.bool false) ?_
     simp only [Act.put, pA, pB, pC]
     refine WE.done ?_
     go_upto_region 5 with (fail)
     refine wp_region_L [(0, 0), (1, 0), (2, 0), (3, 0), (4, 0), (5, 0), (6, 0), (7, 0), (8, 0), (9, 0), (10, 0), (11, 0), (12, 2), (13, 3), (14, 4)] 25 #[.bool false, .slice none 0 0] fun wd hb => ?_
     replace EY := hid (EY.out.trans hb)
     replace F11 := hid (F11.out.trans hb)
     replace F12 := hid (F12.out.trans hb)
     replace FE := hid (FE.out.trans hb)
     clear hb
     have HL2BX2 := hid (BX2.out.up EY.out).lt
     have HL2V5 := hid (V5.out.up EY.out).lt
     have HL2V6 := hid (V6.out.up EY.out).lt
     have HL2V7 := hid (V7.out.up EY.out).lt
     have HW2 := hid (show w.heap.size ≤ wd.heap.size from (E.out.trans EY.out).size)
     have HDOWN := hid (OWN.out.up EY.out)
     have HDWFE := hid (show wr.heap.size ≤ wd.heap.size from FE.out.size)
     refine WE.pp 33 (.pointer (some ⟨gV5, 0, none⟩)) ?_
     refine WE.qq 34 (.slice (some ad) n11 c11) rfl (fun w' hk => by have ce0 := ((V5.out.up EY.out).up hk).k 0; go_simp) ?_
     refine WE.pp 35 (.int .i64 (i : Int)) ?_
     refine WE.pp 36 (.pointer (some (ad.add (i * 3)))) ?_
     refine WE.pp 37 (.pointer (some ⟨(ad.add (i * 3)).block, (ad.add (i * 3)).off + 1, none⟩)) ?_
     refine WE.qq 38 (.agg #[.bool ge, .slice Ae ne ce]) rfl (fun w' hk => by have ce1 : w'.cell? ⟨(ad.add (i * 3)).block, (ad.add (i * 3)).off + 1, none⟩ = some (.bool ge) := (KB.out.up FE.out).up hk; have ce2 : w'.cell? ⟨(ad.add (i * 3)).block, (ad.add (i * 3)).off + 2, none⟩ = some (.slice Ae ne ce) := (KC.out.up FE.out).up hk; go_simp) ?_
     simp only [Act.put, pA, pB, pC]
     refine WE.pp 39 (.pointer (some ⟨gV6, 0, none⟩)) ?_
     refine WE.qq 40 (.slice (some ap) n12 c12) rfl (fun w' hk => by have ce0 := ((V6.out.up EY.out).up hk).k 0; go_simp) ?_
     refine WE.pp 41 (.int .i64 (k : Int)) ?_
     refine WE.pp 42 (.pointer (some (ap.add (k * 3)))) ?_
     refine WE.pp 43 (.pointer (some ⟨(ap.add (k * 3)).block, (ap.add (k * 3)).off + 1, none⟩)) ?_
     refine WE.qq 44 (.agg #[.bool gf, .slice Af nf cf]) rfl (fun w' hk => by have ce1 : w'.cell? ⟨(ap.add (k * 3)).block, (ap.add (k * 3)).off + 1, none⟩ = some (.bool gf) := (JB.out.up FE.out).up hk; have ce2 : w'.cell? ⟨(ap.add (k * 3)).block, (ap.add (k * 3)).off + 2, none⟩ = some (.slice Af nf cf) := (JC.out.up FE.out).up hk; go_simp) ?_
     simp only [Act.put, pA, pB, pC]
     refine WE.callR (d := some 45) rfl rfl (by rfl) (f := 36) (args := #[(.agg #[.bool ge, .slice Ae ne ce]), (.agg #[.bool gf, .slice Af nf cf])]) (fun w => by go_simp) (fun wx hx0 => ?_)
     replace EY := hid (EY.out.trans hx0)
     replace F11 := hid (F11.out.trans hx0)
     replace F12 := hid (F12.out.trans hx0)
     replace FE := hid (FE.out.trans hx0)
     clear hx0
     refine (rAdd_w (QE.out.up EY.out).worth (QF.out.up EY.out).worth (by have := HW.out; omega) (by have := HW.out; omega)).mono ?_
     rintro e wn ⟨v1, rfl, x1, hb⟩
     obtain ⟨g14, A14, n14, c14, rfl⟩ := x1.shape
     refine ⟨_, rfl, hb, ?_⟩
     replace EY := hid (EY.out.trans hb)
     replace F11 := hid (F11.out.trans hb)
     replace F12 := hid (F12.out.trans hb)
     replace FE := hid (FE.out.trans hb)
     have Q14 := hid x1
     clear hb x1
     simp only [Act.put, pA, pB, pC]
     refine WE.var (d := some 10) rfl fun gV10 wv hx0 hbox hge hng => ?_
     have HNV10BX2 := hid (show gV10 ≠ (w.heap.size + 2) by have := HL2BX2.out; omega)
     have HNV10V5 := hid (show gV10 ≠ gV5 by have := HL2V5.out; omega)
     have HNV10V6 := hid (show gV10 ≠ gV6 by have := HL2V6.out; omega)
     have HNV10V7 := hid (show gV10 ≠ gV7 by have := HL2V7.out; omega)
     have HGV10 := hid (show w.heap.size ≤ gV10 by have := HW2.out; omega)
     have HAFEV10 := hid (Nat.le_trans HDWFE.out hge)
     have HOOWNV10 := hid (HDOWN.out.ne hge)
     replace EY := hid (EY.out.trans hx0)
     replace Q14 := hid (Q14.out.up hx0)
     replace F11 := hid (F11.out.trans hx0)
     replace F12 := hid (F12.out.trans hx0)
     replace FE := hid (FE.out.trans hx0)
     have V10 : Hid (Box wv gV10 #[.bool false, .slice none 0 0] 25) := hid hbox
     clear hx0 hbox hge hng
     simp only [Act.put, pA, pB, pC]
     refine WE.store2 (g := gV10) (x := .bool g14) (y := .slice A14 n14 c14) (t := 25) rfl rfl (by rfl) (fun w hb => ?_) V10.out (by rfl) fun ws hk hs => ?_
     ·obtain ⟨ce0, ce1⟩ := hb.c2; obtain ⟨f0, f1⟩ := hb.f2; go_simp
     intro hbx
     replace HBH := hid (Nat.le_trans HBH.out (Nat.le_trans EY.out.size hk.1.size))
     replace OWN := hid ((OWN.out.up EY.out).keptF hk hs HOOWNV10.out)
     replace T11 := hid ((T11.out.up F11.out).kb V10.out (by rfl) hk hs)
     replace T12 := hid ((T12.out.up F12.out).kb V10.out (by rfl) hk hs)
     replace FE := hid (FE.out.keptG hk HAFEV10.out)
     replace E := hid ((E.out.trans EY.out).keptG hk HGV10.out)
     replace BX2 := hid ((BX2.out.up EY.out).kept hk (by simpa using HNV10BX2.out.symm))
     replace V5 := hid ((V5.out.up EY.out).kept hk (by simpa using HNV10V5.out.symm))
     replace V6 := hid ((V6.out.up EY.out).kept hk (by simpa using HNV10V6.out.symm))
     replace V7 := hid ((V7.out.up EY.out).kept hk (by simpa using HNV10V7.out.symm))
     replace V10 := hid hbx
     replace Q13 := hid ((Q13.out.up EY.out).kz hs)
     replace QE := hid ((QE.out.up EY.out).kz hs)
     replace QF := hid ((QF.out.up EY.out).kz hs)
     replace Q14 := hid (Q14.out.kz hs)
     clear hk hs hbx
     replace EY := hid (Ext.refl ws)
     replace F11 := hid (Ext.refl ws)
     replace F12 := hid (Ext.refl ws)
     refine WE.done ?_
     by_cases h0 : xc + yc = 0
     ·have hsd : (sg != 0) = false := by rw [← hsg, h0]; rfl
      clear hsg
      go_upto_region 6 with (fail)
      refine wp_region_S [(0, 0), (1, 1), (2, 0)] fun wd hb => ?_
      replace EY := hid (EY.out.trans hb)
      replace F11 := hid (F11.out.trans hb)
      replace F12 := hid (F12.out.trans hb)
      replace FE := hid (FE.out.trans hb)
      clear hb
      refine WE.qq 46 (.agg #[.bool g14, .slice A14 n14 c14]) rfl (fun w' hk => by obtain ⟨ce0, ce1⟩ := ((V10.out.up EY.out).up hk).c2; go_simp) ?_
      refine WE.cc 47 ((rSign_w (Q14.out.up EY.out).worth (s := sg) (HSG.out)).mono ?_)
      rintro e wn ⟨rfl, hb⟩
      refine ⟨_, rfl, hb, ?_⟩
      replace EY := hid (EY.out.trans hb)
      replace F11 := hid (F11.out.trans hb)
      replace F12 := hid (F12.out.trans hb)
      replace FE := hid (FE.out.trans hb)
      clear hb
      refine WE.pp 48 (.bool false) ?_
      simp only [Act.put, pA, pB, pC]
      refine WE.done ?_
      have hwi : IntKind.i64.wrap ((i : Int) + 1) = (i : Int) + 1 := by rw [IntKind.wrap_i64]; omega
      have hwk : IntKind.i64.wrap ((k : Int) + 1) = (k : Int) + 1 := by rw [IntKind.wrap_i64]; omega
      go_upto_region 8 with (fail)
      refine wp_region_S [(0, 0), (1, 0), (2, 0)] fun wd hb => ?_
      replace EY := hid (EY.out.trans hb)
      replace F11 := hid (F11.out.trans hb)
      replace F12 := hid (F12.out.trans hb)
      replace FE := hid (FE.out.trans hb)
      clear hb
      refine WE.pp 62 (.int .i64 (i : Int)) ?_
      refine WE.pp 63 (.int .i64 ((i : Int) + 1)) ?_
      refine WE.pp 8 (.int .i64 ((i : Int) + 1)) ?_
      simp only [Act.put, pA, pB, pC]
      refine WE.done ?_
      go_upto_region 9 with (fail)
      refine wp_region_S [(0, 0), (1, 0), (2, 0)] fun wd hb => ?_
      replace EY := hid (EY.out.trans hb)
      replace F11 := hid (F11.out.trans hb)
      replace F12 := hid (F12.out.trans hb)
      replace FE := hid (FE.out.trans hb)
      clear hb
      refine WE.pp 64 (.int .i64 (k : Int)) ?_
      refine WE.pp 65 (.int .i64 ((k : Int) + 1)) ?_
      refine WE.pp 9 (.int .i64 ((k : Int) + 1)) ?_
      simp only [Act.put, pA, pB, pC]
      refine WE.done ?_
      go_wp2
      go_roundw
      case rel => exact ⟨i + 1, k + 1, Ao, no, co, out, by go_num, by go_num, by omega, by omega, (E.out.trans EY.out), T11.out.up F11.out, T12.out.up F12.out, Nat.le_trans HBH.out EY.out.size, (V5.out.up EY.out), (V6.out.up EY.out), (V7.out.up EY.out), (BX2.out.up EY.out), (Q13.out.up EY.out), (OWN.out.up EY.out), HOW.out, by rw [M.add_zero HX.out HY.out h0]; exact HINV.out, by have := HOL.out; omega⟩
      case measure => simp [intOf]; all_goals omega
     ·have hsd : (sg != 0) = true := by rw [← hsg, bne_iff_ne]; exact fun e => h0 (Int.sign_eq_zero_iff_zero.1 e)
      clear hsg
      go_upto_region 6 with (fail)
      refine wp_region_S [(0, 0), (1, 1), (2, 0)] fun wd hb => ?_
      replace EY := hid (EY.out.trans hb)
      replace F11 := hid (F11.out.trans hb)
      replace F12 := hid (F12.out.trans hb)
      replace FE := hid (FE.out.trans hb)
      clear hb
      refine WE.qq 46 (.agg #[.bool g14, .slice A14 n14 c14]) rfl (fun w' hk => by obtain ⟨ce0, ce1⟩ := ((V10.out.up EY.out).up hk).c2; go_simp) ?_
      refine WE.cc 47 ((rSign_w (Q14.out.up EY.out).worth (s := sg) (HSG.out)).mono ?_)
      rintro e wn ⟨rfl, hb⟩
      refine ⟨_, rfl, hb, ?_⟩
      replace EY := hid (EY.out.trans hb)
      replace F11 := hid (F11.out.trans hb)
      replace F12 := hid (F12.out.trans hb)
      replace FE := hid (FE.out.trans hb)
      clear hb
      refine WE.pp 48 (.bool true) ?_
      simp only [Act.put, pA, pB, pC]
      refine WE.done ?_
      go_upto_region 7 with (fail)
      refine wp_region_X [gV7, ownBlk base (.slice Ao no co)] [(0, 0), (1, 0), (2, 0), (3, 0), (4, 0), (5, 0), (6, 0), (7, 0), (8, 0), (9, 0), (10, 1), (11, 4), (12, 5), (13, 4)] (fun _ => (0, #[])) rfl (by kernel_rfl) (by intro j hj; cases hj) (fun _ _ d _ _ => by cases d <;> exact Iff.rfl) fun wd hb => ?_
      replace EY := hid (EY.out.trans hb)
      replace F11 := hid (F11.out.trans hb)
      replace F12 := hid (F12.out.trans hb)
      replace FE := hid (FE.out.trans hb)
      clear hb
      have HL3BX2 := hid (BX2.out.up EY.out).lt
      have HL3V5 := hid (V5.out.up EY.out).lt
      have HL3V6 := hid (V6.out.up EY.out).lt
      have HL3V7 := hid (V7.out.up EY.out).lt
      have HL3V10 := hid (V10.out.up EY.out).lt
      refine WX.pp 49 (.pointer (some ⟨gV7, 0, none⟩)) ?_
      refine WX.qq 50 (.slice Ao no co) rfl (fun w' hk => by have ce0 := ((V7.out.up EY.out).up hk).k 0; go_simp) ?_
      refine WX.pp 51 (.pointer (some ⟨gV5, 0, none⟩)) ?_
      refine WX.qq 52 (.slice (some ad) n11 c11) rfl (fun w' hk => by have ce0 := ((V5.out.up EY.out).up hk).k 0; go_simp) ?_
      refine WX.pp 53 (.int .i64 (i : Int)) ?_
      refine WX.pp 54 (.pointer (some (ad.add (i * 3)))) ?_
      simp only [Act.put, pA, pB, pC]
      refine WX.pp 55 (.pointer (some (ad.add (i * 3)))) ?_
      refine WX.qq 56 (.int .i64 xv) rfl (fun w' hk => by have ce0 : w'.cell? (ad.add (i * 3)) = some (.int .i64 xv) := (KA.out.up FE.out).up hk; go_simp) ?_
      refine WX.qq 57 (.agg #[.bool g14, .slice A14 n14 c14]) rfl (fun w' hk => by obtain ⟨ce0, ce1⟩ := ((V10.out.up EY.out).up hk).c2; go_simp) ?_
      refine WX.pp 58 (.agg #[.int .i64 xv, .bool g14, .slice A14 n14 c14]) ?_
      simp only [Act.put, pA, pB, pC]
      refine WX.new (d := some 59) (cs := #[.int .i64 xv, .bool g14, .slice A14 n14 c14]) (t := 56) (v := fun g => (.slice (some ⟨g, 0, none⟩) 1 1)) rfl rfl (by rfl) (fun w => by go_simp) fun gL1 wv hx0 hbox hge => ?_
      replace EY := hid (EY.out.trans hx0)
      replace F11 := hid (F11.out.trans hx0)
      replace F12 := hid (F12.out.trans hx0)
      replace FE := hid (FE.out.trans hx0)
      have L1 : Hid (Box wv gL1 #[.int .i64 xv, .bool g14, .slice A14 n14 c14] 56) := hid hbox
      clear hx0 hbox hge
      simp only [Act.put, pA, pB, pC]
      clear FE
      obtain ⟨v9, wk, hrun, ho9, hk9, hs9⟩ := appL_run (V := xv) (OWN.out.up EY.out) L1.out (Q14.out.up EY.out).fields.2.1 (by rw [List.length_map]; have h1 := HOL.out; have h2 := HN.out; have h3 := HM.out; have h4 := HC1.out.1; have h5 := HC2.out.1; omega) (Nat.le_trans HBH.out EY.out.size) 22
      obtain ⟨A9, n9, c9, rfl⟩ := ho9.shape
      have HBLK := hid (OWN.out.up EY.out).blk
      refine WX.actK (d := some 60) rfl rfl (by rfl) (exec_app (.tmp 50) (.tmp 59) rfl rfl rfl hrun) (hk9.keptB (.inl (by simp))) ?_
      have HQ9 := hid (Q14.out.up EY.out).fields
      replace E := hid (((E.out.trans EY.out)).own hk9 HBLK.out HBW.out)
      replace V5 := hid (Kept.box (X := []) ((V5.out.up EY.out)) hk9 HBLK.out HBV5.out)
      replace V6 := hid (Kept.box (X := []) ((V6.out.up EY.out)) hk9 HBLK.out HBV6.out)
      replace V7 := hid (Kept.box (X := []) ((V7.out.up EY.out)) hk9 HBLK.out HBV7.out)
      replace BX2 := hid (Kept.box (X := []) ((BX2.out.up EY.out)) hk9 HBLK.out HBBX2.out)
      replace Q13 := hid ((Q13.out.up EY.out).kz hs9)
      replace QE := hid ((QE.out.up EY.out).kz hs9)
      replace QF := hid ((QF.out.up EY.out).kz hs9)
      replace T11 := hid ((T11.out.up F11.out).keptB BE11.out hk9 HBLK.out hs9)
      replace F11 := hid (Ext.refl wk)
      replace T12 := hid ((T12.out.up F12.out).keptB BE12.out hk9 HBLK.out hs9)
      replace F12 := hid (Ext.refl wk)
      have HSZ := hid hk9.1.size
      replace HBH := hid (Nat.le_trans HBH.out (Nat.le_trans EY.out.size HSZ.out))
      replace OWN := hid ho9
      replace EY := hid (Ext.refl wk)
      clear hrun ho9 hk9 hs9 HBLK HSZ L1 V10
      refine WX.any (d := some 61) rfl rfl (by rfl) (v := (.pointer (some ⟨gV7, 0, none⟩))) (fun w' hk => by go_simp) ?_
      simp only [Act.put, pA, pB, pC]
      refine WX.storeAt (g := gV7) (off := 0) (cs' := #[.slice A9 n9 c9, .bool g13, .slice A13 n13 c13]) (y := .slice A9 n9 c9) (t := 27) rfl rfl (by rfl) (fun w hb => ?_) (V7.out.up EY.out) (by rfl) rfl (.inl (by simp)) fun ws hk hs hbx => ?_
      ·have ce0 := hb.k 0; have f0 := hb.free 0; go_simp
      replace HBH := hid (Nat.le_trans HBH.out (Nat.le_trans EY.out.size hk.1.size))
      replace OWN := hid ((OWN.out.up EY.out).kept hk hs HBV7.out)
      replace T11 := hid ((T11.out.up F11.out).kb (V7.out.up EY.out) (by rfl) hk hs)
      replace T12 := hid ((T12.out.up F12.out).kb (V7.out.up EY.out) (by rfl) hk hs)
      replace E := hid ((E.out.trans EY.out).keptG hk HGV7.out)
      replace BX2 := hid ((BX2.out.up EY.out).kept hk (by simpa using HNV7BX2.out.symm))
      replace V5 := hid ((V5.out.up EY.out).kept hk (by simpa using HNV7V5.out.symm))
      replace V6 := hid ((V6.out.up EY.out).kept hk (by simpa using HNV7V6.out.symm))
      replace V7 := hid hbx
      replace Q13 := hid ((Q13.out.up EY.out).kz hs)
      replace QE := hid ((QE.out.up EY.out).kz hs)
      replace QF := hid ((QF.out.up EY.out).kz hs)
      clear hk hs hbx
      replace EY := hid (Ext.refl ws)
      replace F11 := hid (Ext.refl ws)
      replace F12 := hid (Ext.refl ws)
      refine WX.done ?_
      have hwi : IntKind.i64.wrap ((i : Int) + 1) = (i : Int) + 1 := by rw [IntKind.wrap_i64]; omega
      have hwk : IntKind.i64.wrap ((k : Int) + 1) = (k : Int) + 1 := by rw [IntKind.wrap_i64]; omega
      go_upto_region 8 with (fail)
      refine wp_region_S [(0, 0), (1, 0), (2, 0)] fun wd hb => ?_
      replace EY := hid (EY.out.trans hb)
      replace F11 := hid (F11.out.trans hb)
      replace F12 := hid (F12.out.trans hb)
      clear hb
      refine WE.pp 62 (.int .i64 (i : Int)) ?_
      refine WE.pp 63 (.int .i64 ((i : Int) + 1)) ?_
      refine WE.pp 8 (.int .i64 ((i : Int) + 1)) ?_
      simp only [Act.put, pA, pB, pC]
      refine WE.done ?_
      go_upto_region 9 with (fail)
      refine wp_region_S [(0, 0), (1, 0), (2, 0)] fun wd hb => ?_
      replace EY := hid (EY.out.trans hb)
      replace F11 := hid (F11.out.trans hb)
      replace F12 := hid (F12.out.trans hb)
      clear hb
      refine WE.pp 64 (.int .i64 (k : Int)) ?_
      refine WE.pp 65 (.int .i64 ((k : Int) + 1)) ?_
      refine WE.pp 9 (.int .i64 ((k : Int) + 1)) ?_
      simp only [Act.put, pA, pB, pC]
      refine WE.done ?_
      go_wp2
      go_roundw
      case rel => exact ⟨i + 1, k + 1, A9, n9, c9, out ++ [(xv, xc + yc)], by go_num, by go_num, by omega, by omega, (E.out.trans EY.out), T11.out.up F11.out, T12.out.up F12.out, Nat.le_trans HBH.out EY.out.size, (V5.out.up EY.out), (V6.out.up EY.out), (V7.out.up EY.out), (BX2.out.up EY.out), (Q13.out.up EY.out), by rw [List.map_append]; have := (OWN.out.up EY.out); rw [HQ9.out.1] at this; exact this, snoc_width HOW.out HQ9.out.2.2 (by omega), by rw [M.add_some HX.out HY.out h0]; exact HINV.out, by rw [List.length_append]; have := HOL.out; simp; omega⟩
      case measure => simp [intOf]; all_goals omega
   ·obtain rfl : k = n12 := by omega
    go_upto_region 10 with (fail)
    refine wp_region_D [(0, 0), (1, 0), (2, 0), (3, 0), (4, 0), (5, 0), (6, 0), (7, 0), (8, 0), (9, 0), (10, 0), (11, 0), (12, 0), (13, 0), (14, 0), (15, 0), (16, 0), (17, 0), (18, 0), (19, 0), (20, 0), (21, 0), (22, 0), (23, 0), (24, 0), (25, 0), (26, 0), (27, 0)] fun wd hb => ?_
    replace EY := hid (EY.out.trans hb)
    replace F11 := hid (F11.out.trans hb)
    replace F12 := hid (F12.out.trans hb)
    replace FE := hid (FE.out.trans hb)
    clear hb
    refine WE.pp 67 (.int .i64 (k : Int)) ?_
    refine WE.pp 68 (.pointer (some ⟨gV6, 0, none⟩)) ?_
    refine WE.qq 69 (.slice A12 k c12) rfl (fun w' hk => by have ce0 := ((V6.out.up EY.out).up hk).k 0; go_simp) ?_
    refine WE.pp 70 (.int .i64 (k : Int)) ?_
    refine WE.pp 71 (.bool true) ?_
    refine WE.pp 72 (.bool true) ?_
    simp only [Act.put, pA, pB, pC]
    refine WE.ss 73 ?_
    refine WE.ss 74 ?_
    refine WE.ss 75 ?_
    refine WE.ss 76 ?_
    refine WE.ss 77 ?_
    refine WE.ss 78 ?_
    simp only [Act.put, pA, pB, pC]
    refine WE.ss 79 ?_
    refine WE.ss 80 ?_
    refine WE.ss 81 ?_
    refine WE.ss 82 ?_
    refine WE.ss 83 ?_
    refine WE.ss 84 ?_
    simp only [Act.put, pA, pB, pC]
    refine WE.ss 85 ?_
    refine WE.ss 86 ?_
    refine WE.ss 87 ?_
    refine WE.ss 88 ?_
    refine WE.ss 89 ?_
    refine WE.ss 90 ?_
    simp only [Act.put, pA, pB, pC]
    refine WE.ss 91 ?_
    refine WE.ss 92 ?_
    refine WE.pp 93 (.bool true) ?_
    refine WE.pp 66 (.bool true) ?_
    simp only [Act.put, pA, pB, pC]
    refine WE.done ?_
    go_upto_region 11 with (fail)
    refine wp_region_X [gV7, ownBlk base (.slice Ao no co)] [(0, 0), (1, 0), (2, 0), (3, 0), (4, 0), (5, 0), (6, 0), (7, 1), (8, 4), (9, 5), (10, 4)] (fun _ => (0, #[])) rfl (by kernel_rfl) (by intro j hj; cases hj) (fun _ _ d _ _ => by cases d <;> exact Iff.rfl) fun wd hb => ?_
    replace EY := hid (EY.out.trans hb)
    replace F11 := hid (F11.out.trans hb)
    replace F12 := hid (F12.out.trans hb)
    replace FE := hid (FE.out.trans hb)
    clear hb
    have HL2BX2 := hid (BX2.out.up EY.out).lt
    have HL2V5 := hid (V5.out.up EY.out).lt
    have HL2V6 := hid (V6.out.up EY.out).lt
    have HL2V7 := hid (V7.out.up EY.out).lt
    refine WX.pp 94 (.pointer (some ⟨gV7, 0, none⟩)) ?_
    refine WX.qq 95 (.slice Ao no co) rfl (fun w' hk => by have ce0 := ((V7.out.up EY.out).up hk).k 0; go_simp) ?_
    refine WX.pp 96 (.pointer (some ⟨gV5, 0, none⟩)) ?_
    refine WX.qq 97 (.slice (some ad) n11 c11) rfl (fun w' hk => by have ce0 := ((V5.out.up EY.out).up hk).k 0; go_simp) ?_
    refine WX.pp 98 (.int .i64 (i : Int)) ?_
    refine WX.pp 99 (.pointer (some (ad.add (i * 3)))) ?_
    simp only [Act.put, pA, pB, pC]
    refine WX.qq 100 (.agg #[.int .i64 xv, .bool ge, .slice Ae ne ce]) rfl (fun w' hk => by have ce0 : w'.cell? (ad.add (i * 3)) = some (.int .i64 xv) := (KA.out.up FE.out).up hk; have ce1 : w'.cell? ⟨(ad.add (i * 3)).block, (ad.add (i * 3)).off + 1, none⟩ = some (.bool ge) := (KB.out.up FE.out).up hk; have ce2 : w'.cell? ⟨(ad.add (i * 3)).block, (ad.add (i * 3)).off + 2, none⟩ = some (.slice Ae ne ce) := (KC.out.up FE.out).up hk; go_simp) ?_
    simp only [Act.put, pA, pB, pC]
    refine WX.new (d := some 101) (cs := #[.int .i64 xv, .bool ge, .slice Ae ne ce]) (t := 56) (v := fun g => (.slice (some ⟨g, 0, none⟩) 1 1)) rfl rfl (by rfl) (fun w => by go_simp) fun gL1 wv hx0 hbox hge => ?_
    replace EY := hid (EY.out.trans hx0)
    replace F11 := hid (F11.out.trans hx0)
    replace F12 := hid (F12.out.trans hx0)
    replace FE := hid (FE.out.trans hx0)
    have L1 : Hid (Box wv gL1 #[.int .i64 xv, .bool ge, .slice Ae ne ce] 56) := hid hbox
    clear hx0 hbox hge
    simp only [Act.put, pA, pB, pC]
    clear FE
    obtain ⟨v9, wk, hrun, ho9, hk9, hs9⟩ := appL_run (V := xv) (OWN.out.up EY.out) L1.out (QE.out.up EY.out).fields.2.1 (by rw [List.length_map]; have h1 := HOL.out; have h2 := HN.out; have h3 := HM.out; have h4 := HC1.out.1; have h5 := HC2.out.1; omega) (Nat.le_trans HBH.out EY.out.size) 22
    obtain ⟨A9, n9, c9, rfl⟩ := ho9.shape
    have HBLK := hid (OWN.out.up EY.out).blk
    refine WX.actK (d := some 102) rfl rfl (by rfl) (exec_app (.tmp 95) (.tmp 101) rfl rfl rfl hrun) (hk9.keptB (.inl (by simp))) ?_
    have HQ9 := hid (QE.out.up EY.out).fields
    replace E := hid (((E.out.trans EY.out)).own hk9 HBLK.out HBW.out)
    replace V5 := hid (Kept.box (X := []) ((V5.out.up EY.out)) hk9 HBLK.out HBV5.out)
    replace V6 := hid (Kept.box (X := []) ((V6.out.up EY.out)) hk9 HBLK.out HBV6.out)
    replace V7 := hid (Kept.box (X := []) ((V7.out.up EY.out)) hk9 HBLK.out HBV7.out)
    replace BX2 := hid (Kept.box (X := []) ((BX2.out.up EY.out)) hk9 HBLK.out HBBX2.out)
    replace Q13 := hid ((Q13.out.up EY.out).kz hs9)
    replace T11 := hid ((T11.out.up F11.out).keptB BE11.out hk9 HBLK.out hs9)
    replace F11 := hid (Ext.refl wk)
    replace T12 := hid ((T12.out.up F12.out).keptB BE12.out hk9 HBLK.out hs9)
    replace F12 := hid (Ext.refl wk)
    have HSZ := hid hk9.1.size
    replace HBH := hid (Nat.le_trans HBH.out (Nat.le_trans EY.out.size HSZ.out))
    replace OWN := hid ho9
    replace EY := hid (Ext.refl wk)
    clear hrun ho9 hk9 hs9 HBLK HSZ L1
    refine WX.any (d := some 103) rfl rfl (by rfl) (v := (.pointer (some ⟨gV7, 0, none⟩))) (fun w' hk => by go_simp) ?_
    simp only [Act.put, pA, pB, pC]
    refine WX.storeAt (g := gV7) (off := 0) (cs' := #[.slice A9 n9 c9, .bool g13, .slice A13 n13 c13]) (y := .slice A9 n9 c9) (t := 27) rfl rfl (by rfl) (fun w hb => ?_) (V7.out.up EY.out) (by rfl) rfl (.inl (by simp)) fun ws hk hs hbx => ?_
    ·have ce0 := hb.k 0; have f0 := hb.free 0; go_simp
    replace HBH := hid (Nat.le_trans HBH.out (Nat.le_trans EY.out.size hk.1.size))
    replace OWN := hid ((OWN.out.up EY.out).kept hk hs HBV7.out)
    replace T11 := hid ((T11.out.up F11.out).kb (V7.out.up EY.out) (by rfl) hk hs)
    replace T12 := hid ((T12.out.up F12.out).kb (V7.out.up EY.out) (by rfl) hk hs)
    replace E := hid ((E.out.trans EY.out).keptG hk HGV7.out)
    replace BX2 := hid ((BX2.out.up EY.out).kept hk (by simpa using HNV7BX2.out.symm))
    replace V5 := hid ((V5.out.up EY.out).kept hk (by simpa using HNV7V5.out.symm))
    replace V6 := hid ((V6.out.up EY.out).kept hk (by simpa using HNV7V6.out.symm))
    replace V7 := hid hbx
    replace Q13 := hid ((Q13.out.up EY.out).kz hs)
    clear hk hs hbx
    replace EY := hid (Ext.refl ws)
    replace F11 := hid (Ext.refl ws)
    replace F12 := hid (Ext.refl ws)
    refine WX.done ?_
    have hwi : IntKind.i64.wrap ((i : Int) + 1) = (i : Int) + 1 := by rw [IntKind.wrap_i64]; omega
    go_upto_region 12 with (fail)
    refine wp_region_S [(0, 0), (1, 0), (2, 0)] fun wd hb => ?_
    replace EY := hid (EY.out.trans hb)
    replace F11 := hid (F11.out.trans hb)
    replace F12 := hid (F12.out.trans hb)
    clear hb
    refine WE.pp 104 (.int .i64 (i : Int)) ?_
    refine WE.pp 105 (.int .i64 ((i : Int) + 1)) ?_
    refine WE.pp 8 (.int .i64 ((i : Int) + 1)) ?_
    simp only [Act.put, pA, pB, pC]
    refine WE.done ?_
    go_wp2
    go_roundw
    case rel => exact ⟨i + 1, k, A9, n9, c9, out ++ [(xv, xc)], by go_num, rfl, by omega, by omega, (E.out.trans EY.out), T11.out.up F11.out, T12.out.up F12.out, Nat.le_trans HBH.out EY.out.size, (V5.out.up EY.out), (V6.out.up EY.out), (V7.out.up EY.out), (BX2.out.up EY.out), (Q13.out.up EY.out), by rw [List.map_append]; have := (OWN.out.up EY.out); rw [HQ9.out.1] at this; exact this, snoc_width HOW.out HQ9.out.2.2 (by omega), by rw [M.add_left_end HX.out (by rw [← HC2.out.1]; omega)]; exact HINV.out, by rw [List.length_append]; have := HOL.out; simp; omega⟩
    case measure => simp [intOf]; all_goals omega
  ·obtain rfl : i = n11 := by omega
   have hid' : decide ((i : Int) < (i : Int)) = false := by simp
   by_cases hk : k < n12
   ·have hkd : decide ((k : Int) < (n12 : Int)) = true := decide_eq_true (by omega)
    have hke : ((k : Int) == (n12 : Int)) = false := by rw [beq_eq_false_iff_ne]; omega
    obtain ⟨y, hy⟩ : ∃ y, s[k]? = some y := ⟨_, List.getElem?_eq_getElem (by rw [← HC2.out.1]; omega)⟩
    obtain ⟨ap, gf, Af, nf, cf, rfl, ja, jb, jc, jz⟩ := T12.out.get hy
    obtain ⟨yv, yc⟩ := y
    have HY := hid hy
    have JA := hid ja
    have JB := hid jb
    have JC := hid jc
    have QF := hid jz
    clear hy ja jb jc jz
    go_upto_region 4 with (fail)
    refine wp_region_S [(0, 0), (1, 0), (2, 0), (3, 0), (4, 0), (5, 0), (6, 0), (7, 0), (8, 0), (9, 0), (10, 0), (11, 0)] fun wd hb => ?_
    replace EY := hid (EY.out.trans hb)
    replace F11 := hid (F11.out.trans hb)
    replace F12 := hid (F12.out.trans hb)
    replace FE := hid (FE.out.trans hb)
    clear hb
    refine WE.pp 21 (.int .i64 (i : Int)) ?_
    refine WE.pp 22 (.pointer (some ⟨gV5, 0, none⟩)) ?_
    refine WE.qq 23 (.slice A11 i c11) rfl (fun w' hk => by have ce0 := ((V5.out.up EY.out).up hk).k 0; go_simp) ?_
    refine WE.pp 24 (.int .i64 (i : Int)) ?_
    refine WE.pp 25 (.bool false) ?_
    refine WE.pp 26 (.bool false) ?_
    simp only [Act.put, pA, pB, pC]
    refine WE.pp 27 (.int .i64 (k : Int)) ?_
    refine WE.pp 28 (.pointer (some ⟨gV6, 0, none⟩)) ?_
    refine WE.qq 29 (.slice (some ap) n12 c12) rfl (fun w' hk => by have ce0 := ((V6.out.up EY.out).up hk).k 0; go_simp) ?_
    refine WE.pp 30 (.int .i64 (n12 : Int)) ?_
    refine WE.pp 31 (.bool true) ?_
    refine WE.pp 32 (.bool true) ?_
    simp only [Act.put, pA, pB, pC]
    refine WE.done ?_
    go_upto_region 10 with (fail)
    refine wp_region_D [(0, 0), (1, 0), (2, 0), (3, 0), (4, 0), (5, 0), (6, 0), (7, 0), (8, 0), (9, 0), (10, 0), (11, 0), (12, 0), (13, 0), (14, 0), (15, 0), (16, 0), (17, 0), (18, 0), (19, 0), (20, 0), (21, 0), (22, 0), (23, 0), (24, 0), (25, 0), (26, 0), (27, 0)] fun wd hb => ?_
    replace EY := hid (EY.out.trans hb)
    replace F11 := hid (F11.out.trans hb)
    replace F12 := hid (F12.out.trans hb)
    replace FE := hid (FE.out.trans hb)
    clear hb
    refine WE.pp 67 (.int .i64 (k : Int)) ?_
    refine WE.pp 68 (.pointer (some ⟨gV6, 0, none⟩)) ?_
    refine WE.qq 69 (.slice (some ap) n12 c12) rfl (fun w' hk => by have ce0 := ((V6.out.up EY.out).up hk).k 0; go_simp) ?_
    refine WE.pp 70 (.int .i64 (n12 : Int)) ?_
    refine WE.pp 71 (.bool false) ?_
    refine WE.pp 72 (.bool false) ?_
    simp only [Act.put, pA, pB, pC]
    refine WE.pp 73 (.int .i64 (i : Int)) ?_
    refine WE.pp 74 (.pointer (some ⟨gV5, 0, none⟩)) ?_
    refine WE.qq 75 (.slice A11 i c11) rfl (fun w' hk => by have ce0 := ((V5.out.up EY.out).up hk).k 0; go_simp) ?_
    refine WE.pp 76 (.int .i64 (i : Int)) ?_
    refine WE.pp 77 (.bool false) ?_
    refine WE.pp 78 (.bool false) ?_
    simp only [Act.put, pA, pB, pC]
    refine WE.ss 79 ?_
    refine WE.ss 80 ?_
    refine WE.ss 81 ?_
    refine WE.ss 82 ?_
    refine WE.ss 83 ?_
    refine WE.ss 84 ?_
    simp only [Act.put, pA, pB, pC]
    refine WE.ss 85 ?_
    refine WE.ss 86 ?_
    refine WE.ss 87 ?_
    refine WE.ss 88 ?_
    refine WE.ss 89 ?_
    refine WE.ss 90 ?_
    simp only [Act.put, pA, pB, pC]
    refine WE.ss 91 ?_
    refine WE.pp 92 (.bool false) ?_
    refine WE.pp 93 (.bool false) ?_
    refine WE.pp 66 (.bool false) ?_
    simp only [Act.put, pA, pB, pC]
    refine WE.done ?_
    go_upto_region 13 with (fail)
    refine wp_region_D [(0, 0), (1, 0), (2, 0), (3, 0), (4, 0), (5, 0), (6, 0), (7, 0), (8, 0), (9, 0), (10, 0), (11, 0), (12, 0), (13, 0), (14, 0), (15, 0), (16, 0), (17, 0), (18, 0), (19, 0), (20, 0)] fun wd hb => ?_
    replace EY := hid (EY.out.trans hb)
    replace F11 := hid (F11.out.trans hb)
    replace F12 := hid (F12.out.trans hb)
    replace FE := hid (FE.out.trans hb)
    clear hb
    refine WE.pp 107 (.int .i64 (i : Int)) ?_
    refine WE.pp 108 (.pointer (some ⟨gV5, 0, none⟩)) ?_
    refine WE.qq 109 (.slice A11 i c11) rfl (fun w' hk => by have ce0 := ((V5.out.up EY.out).up hk).k 0; go_simp) ?_
    refine WE.pp 110 (.int .i64 (i : Int)) ?_
    refine WE.pp 111 (.bool true) ?_
    refine WE.pp 112 (.bool true) ?_
    simp only [Act.put, pA, pB, pC]
    refine WE.ss 113 ?_
    refine WE.ss 114 ?_
    refine WE.ss 115 ?_
    refine WE.ss 116 ?_
    refine WE.ss 117 ?_
    refine WE.ss 118 ?_
    simp only [Act.put, pA, pB, pC]
    refine WE.ss 119 ?_
    refine WE.ss 120 ?_
    refine WE.ss 121 ?_
    refine WE.ss 122 ?_
    refine WE.ss 123 ?_
    refine WE.ss 124 ?_
    simp only [Act.put, pA, pB, pC]
    refine WE.ss 125 ?_
    refine WE.pp 126 (.bool true) ?_
    refine WE.pp 106 (.bool true) ?_
    simp only [Act.put, pA, pB, pC]
    refine WE.done ?_
    go_upto_region 14 with (fail)
    refine wp_region_X [gV7, ownBlk base (.slice Ao no co)] [(0, 0), (1, 0), (2, 0), (3, 0), (4, 0), (5, 0), (6, 0), (7, 1), (8, 4), (9, 5), (10, 4)] (fun _ => (0, #[])) rfl (by kernel_rfl) (by intro j hj; cases hj) (fun _ _ d _ _ => by cases d <;> exact Iff.rfl) fun wd hb => ?_
    replace EY := hid (EY.out.trans hb)
    replace F11 := hid (F11.out.trans hb)
    replace F12 := hid (F12.out.trans hb)
    replace FE := hid (FE.out.trans hb)
    clear hb
    have HL2BX2 := hid (BX2.out.up EY.out).lt
    have HL2V5 := hid (V5.out.up EY.out).lt
    have HL2V6 := hid (V6.out.up EY.out).lt
    have HL2V7 := hid (V7.out.up EY.out).lt
    refine WX.pp 127 (.pointer (some ⟨gV7, 0, none⟩)) ?_
    refine WX.qq 128 (.slice Ao no co) rfl (fun w' hk => by have ce0 := ((V7.out.up EY.out).up hk).k 0; go_simp) ?_
    refine WX.pp 129 (.pointer (some ⟨gV6, 0, none⟩)) ?_
    refine WX.qq 130 (.slice (some ap) n12 c12) rfl (fun w' hk => by have ce0 := ((V6.out.up EY.out).up hk).k 0; go_simp) ?_
    refine WX.pp 131 (.int .i64 (k : Int)) ?_
    refine WX.pp 132 (.pointer (some (ap.add (k * 3)))) ?_
    simp only [Act.put, pA, pB, pC]
    refine WX.qq 133 (.agg #[.int .i64 yv, .bool gf, .slice Af nf cf]) rfl (fun w' hk => by have ce0 : w'.cell? (ap.add (k * 3)) = some (.int .i64 yv) := (JA.out.up FE.out).up hk; have ce1 : w'.cell? ⟨(ap.add (k * 3)).block, (ap.add (k * 3)).off + 1, none⟩ = some (.bool gf) := (JB.out.up FE.out).up hk; have ce2 : w'.cell? ⟨(ap.add (k * 3)).block, (ap.add (k * 3)).off + 2, none⟩ = some (.slice Af nf cf) := (JC.out.up FE.out).up hk; go_simp) ?_
    simp only [Act.put, pA, pB, pC]
    refine WX.new (d := some 134) (cs := #[.int .i64 yv, .bool gf, .slice Af nf cf]) (t := 56) (v := fun g => (.slice (some ⟨g, 0, none⟩) 1 1)) rfl rfl (by rfl) (fun w => by go_simp) fun gL1 wv hx0 hbox hge => ?_
    replace EY := hid (EY.out.trans hx0)
    replace F11 := hid (F11.out.trans hx0)
    replace F12 := hid (F12.out.trans hx0)
    have L1 : Hid (Box wv gL1 #[.int .i64 yv, .bool gf, .slice Af nf cf] 56) := hid hbox
    clear hx0 hbox hge
    simp only [Act.put, pA, pB, pC]
    clear FE
    obtain ⟨v9, wk, hrun, ho9, hk9, hs9⟩ := appL_run (V := yv) (OWN.out.up EY.out) L1.out (QF.out.up EY.out).fields.2.1 (by rw [List.length_map]; have h1 := HOL.out; have h2 := HN.out; have h3 := HM.out; have h4 := HC1.out.1; have h5 := HC2.out.1; omega) (Nat.le_trans HBH.out EY.out.size) 22
    obtain ⟨A9, n9, c9, rfl⟩ := ho9.shape
    have HBLK := hid (OWN.out.up EY.out).blk
    refine WX.actK (d := some 135) rfl rfl (by rfl) (exec_app (.tmp 128) (.tmp 134) rfl rfl rfl hrun) (hk9.keptB (.inl (by simp))) ?_
    have HQ9 := hid (QF.out.up EY.out).fields
    replace E := hid (((E.out.trans EY.out)).own hk9 HBLK.out HBW.out)
    replace V5 := hid (Kept.box (X := []) ((V5.out.up EY.out)) hk9 HBLK.out HBV5.out)
    replace V6 := hid (Kept.box (X := []) ((V6.out.up EY.out)) hk9 HBLK.out HBV6.out)
    replace V7 := hid (Kept.box (X := []) ((V7.out.up EY.out)) hk9 HBLK.out HBV7.out)
    replace BX2 := hid (Kept.box (X := []) ((BX2.out.up EY.out)) hk9 HBLK.out HBBX2.out)
    replace Q13 := hid ((Q13.out.up EY.out).kz hs9)
    replace T11 := hid ((T11.out.up F11.out).keptB BE11.out hk9 HBLK.out hs9)
    replace F11 := hid (Ext.refl wk)
    replace T12 := hid ((T12.out.up F12.out).keptB BE12.out hk9 HBLK.out hs9)
    replace F12 := hid (Ext.refl wk)
    have HSZ := hid hk9.1.size
    replace HBH := hid (Nat.le_trans HBH.out (Nat.le_trans EY.out.size HSZ.out))
    replace OWN := hid ho9
    replace EY := hid (Ext.refl wk)
    clear hrun ho9 hk9 hs9 HBLK HSZ L1
    refine WX.any (d := some 136) rfl rfl (by rfl) (v := (.pointer (some ⟨gV7, 0, none⟩))) (fun w' hk => by go_simp) ?_
    simp only [Act.put, pA, pB, pC]
    refine WX.storeAt (g := gV7) (off := 0) (cs' := #[.slice A9 n9 c9, .bool g13, .slice A13 n13 c13]) (y := .slice A9 n9 c9) (t := 27) rfl rfl (by rfl) (fun w hb => ?_) (V7.out.up EY.out) (by rfl) rfl (.inl (by simp)) fun ws hk hs hbx => ?_
    ·have ce0 := hb.k 0; have f0 := hb.free 0; go_simp
    replace HBH := hid (Nat.le_trans HBH.out (Nat.le_trans EY.out.size hk.1.size))
    replace OWN := hid ((OWN.out.up EY.out).kept hk hs HBV7.out)
    replace T11 := hid ((T11.out.up F11.out).kb (V7.out.up EY.out) (by rfl) hk hs)
    replace T12 := hid ((T12.out.up F12.out).kb (V7.out.up EY.out) (by rfl) hk hs)
    replace E := hid ((E.out.trans EY.out).keptG hk HGV7.out)
    replace BX2 := hid ((BX2.out.up EY.out).kept hk (by simpa using HNV7BX2.out.symm))
    replace V5 := hid ((V5.out.up EY.out).kept hk (by simpa using HNV7V5.out.symm))
    replace V6 := hid ((V6.out.up EY.out).kept hk (by simpa using HNV7V6.out.symm))
    replace V7 := hid hbx
    replace Q13 := hid ((Q13.out.up EY.out).kz hs)
    clear hk hs hbx
    replace EY := hid (Ext.refl ws)
    replace F11 := hid (Ext.refl ws)
    replace F12 := hid (Ext.refl ws)
    refine WX.done ?_
    have hwk : IntKind.i64.wrap ((k : Int) + 1) = (k : Int) + 1 := by rw [IntKind.wrap_i64]; omega
    go_upto_region 15 with (fail)
    refine wp_region_S [(0, 0), (1, 0), (2, 0)] fun wd hb => ?_
    replace EY := hid (EY.out.trans hb)
    replace F11 := hid (F11.out.trans hb)
    replace F12 := hid (F12.out.trans hb)
    clear hb
    refine WE.pp 137 (.int .i64 (k : Int)) ?_
    refine WE.pp 138 (.int .i64 ((k : Int) + 1)) ?_
    refine WE.pp 9 (.int .i64 ((k : Int) + 1)) ?_
    simp only [Act.put, pA, pB, pC]
    refine WE.done ?_
    go_wp2
    go_roundw
    case rel => exact ⟨i, k + 1, A9, n9, c9, out ++ [(yv, yc)], rfl, by go_num, by omega, by omega, (E.out.trans EY.out), T11.out.up F11.out, T12.out.up F12.out, Nat.le_trans HBH.out EY.out.size, (V5.out.up EY.out), (V6.out.up EY.out), (V7.out.up EY.out), (BX2.out.up EY.out), (Q13.out.up EY.out), by rw [List.map_append]; have := (OWN.out.up EY.out); rw [HQ9.out.1] at this; exact this, snoc_width HOW.out HQ9.out.2.2 (by omega), by rw [M.add_right_end (by rw [← HC1.out.1]; omega) HY.out]; exact HINV.out, by rw [List.length_append]; have := HOL.out; simp; omega⟩
    case measure => simp [intOf]; all_goals omega
   ·obtain rfl : k = n12 := by omega
    have hkd : decide ((k : Int) < (k : Int)) = false := by simp
    go_upto_region 4 with (fail)
    refine wp_region_S [(0, 0), (1, 0), (2, 0), (3, 0), (4, 0), (5, 0), (6, 0), (7, 0), (8, 0), (9, 0), (10, 0), (11, 0)] fun wd hb => ?_
    replace EY := hid (EY.out.trans hb)
    clear hb
    refine WE.pp 21 (.int .i64 (i : Int)) ?_
    refine WE.pp 22 (.pointer (some ⟨gV5, 0, none⟩)) ?_
    refine WE.qq 23 (.slice A11 i c11) rfl (fun w' hk => by have ce0 := ((V5.out.up EY.out).up hk).k 0; go_simp) ?_
    refine WE.pp 24 (.int .i64 (i : Int)) ?_
    refine WE.pp 25 (.bool false) ?_
    refine WE.pp 26 (.bool false) ?_
    simp only [Act.put, pA, pB, pC]
    refine WE.pp 27 (.int .i64 (k : Int)) ?_
    refine WE.pp 28 (.pointer (some ⟨gV6, 0, none⟩)) ?_
    refine WE.qq 29 (.slice A12 k c12) rfl (fun w' hk => by have ce0 := ((V6.out.up EY.out).up hk).k 0; go_simp) ?_
    refine WE.pp 30 (.int .i64 (k : Int)) ?_
    refine WE.pp 31 (.bool false) ?_
    refine WE.pp 32 (.bool false) ?_
    simp only [Act.put, pA, pB, pC]
    refine WE.done ?_
    clear F11 F12 FE T11 T12
    go_upto_region 16 with (fail)
    refine wp_region_S [(0, 0), (1, 4)] fun wd hb => ?_
    replace EY := hid (EY.out.trans hb)
    clear hb
    refine WE.qq 139 (.agg #[.slice Ao no co, .bool g13, .slice A13 n13 c13]) rfl (fun w' hk => by obtain ⟨ce0, ce1, ce2⟩ := ((V7.out.up EY.out).up hk).c3; go_simp) ?_
    simp only [Act.put, pA, pB, pC]
    refine WE.store3 (g := (w.heap.size + 2)) (x := .slice Ao no co) (y := .bool g13) (z := .slice A13 n13 c13) (t := 27) rfl rfl (by rfl) (fun w hb => ?_) (BX2.out.up EY.out) (by rfl) fun ws hk hs => ?_
    ·obtain ⟨ce0, ce1, ce2⟩ := hb.c3; obtain ⟨f0, f1, f2⟩ := hb.f3; go_simp
    intro hbx
    replace OWN := hid ((OWN.out.up EY.out).kept hk hs HBBX2.out)
    replace E := hid ((E.out.trans EY.out).keptG hk (by simp))
    replace BX2 := hid hbx
    replace Q13 := hid ((Q13.out.up EY.out).kz hs)
    clear hk hs hbx
    replace EY := hid (Ext.refl ws)
    refine WE.done ?_
    have r0 := (BX2.out.up EY.out).cell (o := 0) (v := .slice Ao no co) rfl
    have r1 := (BX2.out.up EY.out).cell (o := 1) (v := .bool g13) rfl
    have r2 := (BX2.out.up EY.out).cell (o := 2) (v := .slice A13 n13 c13) rfl
    repeat go_step
    exact bodyPost_ret (v := .agg #[.slice Ao no co, .bool g13, .slice A13 n13 c13]) (by simp [results, Tryz.results22, go_sem, r0, r1, r2]) rfl ⟨_, rfl, ⟨_, _, _, _, _, _, _, rfl, by have h := HINV.out; rw [HC1.out.1, HC2.out.1, List.drop_length, List.drop_length, M.nil_addT, List.append_nil] at h; rw [← h]; exact (OWN.out.up EY.out).tm HOW.out, (Q13.out.up EY.out), M.okT_addT O11.out O12.out⟩, (E.out.trans EY.out)⟩

end Go.Proofs.YtklmnmkmpkobhaaGreat
