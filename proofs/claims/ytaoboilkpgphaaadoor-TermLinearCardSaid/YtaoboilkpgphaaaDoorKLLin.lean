/-
  Layer 10, the laws: TermLinear.
-/
import Derived.Test.YtaoboilkpgphaaaDoorKTFace
import Derived.Test.YtaoboilkpgphaaaDoorKLLinM
import Derived.Test.YtaoboilkpgphaaaDoorKTGhost
namespace Go.Proofs.YtaoboilkpgphaaaDoor.Q
set_option linter.unusedSimpArgs false
set_option linter.unusedVariables false
open Go.RowKit

/-- A term, whichever, and what is wrong. -/
def GivesCode (w : World) (z : Int) (e : Ending) (w' : World) : Prop := ∃ o g N nn nc nm s A n c, e = .returned (.tuple #[kv o g N nn nc nm s A n c, .int .i64 z]) ∧ Ext w w'
theorem GivesTm.told {w w' : World} {r : M.Tm × Int} {z : Int} {e : Ending} (h : GivesTm w r e w') (hr : r.2 = z) : GivesCode w z e w' := by
 subst hr
 obtain ⟨v, rfl, h2, h3⟩ := h
 obtain ⟨N, nn, nc, A, c, rfl, -, -⟩ := h2
 exact ⟨_, _, _, _, _, _, _, _, _, _, rfl, h3⟩
theorem make_two {op : Int} {t t' : M.Tm} {op1 op' : Int} {g g' : Bool} {N A N' A' : Option Addr} {nn nc n c nn' nc' n' c' gb : Nat} {nm nm' : List UInt8} {so so' : Int} {T : TypeId} {w : World} {z : Int} (h : IsTm w t (kv op1 g N nn nc nm so A n c)) (h' : IsTm w t' (kv op' g' N' nn' nc' nm' so' A' n' c'))
 (hb : Box w gb #[.int .i64 op1, .bool g, .slice N nn nc, str nm, .int .i64 so, .slice A n c, .int .i64 op', .bool g', .slice N' nn' nc', str nm', .int .i64 so', .slice A' n' c'] T) (hf : M.kfew t = true) (hf' : M.kfew t' = true) (hz : (M.kmake op [t, t']).2 = z) (ht : Tab w) :
 Calls Tryd.prog 20 #[.int .i64 op, .slice (some ⟨gb, 0, none⟩) 2 2] w (GivesCode w z) :=
 (make_t (tms_two h h' hb) (by simp [M.kfews, hf, hf']) ht).mono fun e w' h => h.told hz
theorem M.limbs_len {n : Nat} (h : n < 1000000000) : (M.limbs n).length ≤ 4 := by
 rw [M.limbs]
 split
 ·simp
 ·rw [Nat.div_eq_of_lt h, M.limbs, if_pos rfl]; simp
theorem M.few_num {Z : Int} (h1 : -32768 ≤ Z) (h2 : Z ≤ 32767) : M.kfew (M.knumT Z) = true := by
 have := M.limbs_len (n := Z.natAbs) (by omega)
 rw [M.knumT, M.kfew]
 simp [M.kfews, this]
set_option maxHeartbeats 16000000 in
set_option maxRecDepth 100000 in
theorem linear_law {t : M.Tm} {v : Value} {nI : Int} {neg : Bool} {w : World} (h : IsTm w t v) (h1 : -32768 ≤ nI) (h2 : nI ≤ 32767) (ht : Tab w) : Calls Tryd.prog 5 #[v, .int .i16 nI, .bool neg] w (GivesB w true) := by
 obtain ⟨N, nn, nc, A, n, c, rfl, -, -, -, -, -, -⟩ := h.shape
 obtain ⟨op, hop⟩ : ∃ x, t.op = x := ⟨_, rfl⟩
 obtain ⟨g, hg⟩ : ∃ x, t.g = x := ⟨_, rfl⟩
 obtain ⟨nm, hnm⟩ : ∃ x, t.name = x := ⟨_, rfl⟩
 obtain ⟨so, hso⟩ : ∃ x, t.sort = x := ⟨_, rfl⟩
 rw [hop, hg, hnm, hso] at h ⊢
 clear hop hg hnm
 obtain ⟨f, hf⟩ : ∃ b, M.kfewT t = b := ⟨_, rfl⟩
 have HKN := hid (show ∀ w', Ext w w' → Calls Tryd.prog 8 #[] w' (GivesB w' true) from fun w' e => known_t (ht.up e))
 have HF := hid (show ∀ w', Ext w w' → Calls Tryd.prog 9 #[kv op g N nn nc nm so A n c] w' (GivesB w' f) from fun w' e => hf ▸ fewTerm_n t (h.up e))
 have HB3 := hid (Box.new w #[.int .i64 op, .bool g, .slice N nn nc, str nm, .int .i64 so, .slice A n c] 27)
 have EA := hid (Ext.alloc w (.cells #[.int .i64 op, .bool g, .slice N nn nc, str nm, .int .i64 so, .slice A n c] 27))
 have E := hid (Ext.refl (w.alloc (.cells #[.int .i64 op, .bool g, .slice N nn nc, str nm, .int .i64 so, .slice A n c] 27)))
 cases f
 ·clear h ht hf hso
  go_enter Tryd.func5, Tryd.ntmps5
  go_wp2_with fail
  refine (HKN.out _ (EA.out.trans E.out)).mono ?_
  rintro e w1 ⟨rfl, hb⟩
  replace E := hid (E.out.trans hb)
  clear hb
  obtain ⟨⟨b0, b1, b2, b3, b4, b5⟩, -, -⟩ := boxF6 (HB3.out.up E.out)
  go_wp2_with fail
  refine (HF.out _ (EA.out.trans E.out)).mono ?_
  rintro e w1 ⟨rfl, hb⟩
  clear b0 b1 b2 b3 b4 b5
  replace E := hid (E.out.trans hb)
  clear hb
  go_wp2_with fail
  go_ret
  exact ⟨rfl, EA.out.trans E.out⟩
 obtain ⟨q, hq⟩ : ∃ b, M.kIs t = b := ⟨_, rfl⟩
 have HI := hid (show ∀ w', Ext w w' → Calls Tryd.prog 13 #[kv op g N nn nc nm so A n c] w' (GivesB w' q) from fun w' e => hq ▸ is_t (h.up e) (M.kfewT_few hf) (ht.up e))
 cases q
 ·clear h ht hf hso hq
  go_enter Tryd.func5, Tryd.ntmps5
  go_wp2_with fail
  refine (HKN.out _ (EA.out.trans E.out)).mono ?_
  rintro e w1 ⟨rfl, hb⟩
  replace E := hid (E.out.trans hb)
  clear hb
  obtain ⟨⟨b0, b1, b2, b3, b4, b5⟩, -, -⟩ := boxF6 (HB3.out.up E.out)
  go_wp2_with fail
  refine (HF.out _ (EA.out.trans E.out)).mono ?_
  rintro e w1 ⟨rfl, hb⟩
  clear b0 b1 b2 b3 b4 b5
  replace E := hid (E.out.trans hb)
  clear hb
  obtain ⟨⟨b0, b1, b2, b3, b4, b5⟩, -, -⟩ := boxF6 (HB3.out.up E.out)
  go_wp2_with fail
  refine (HI.out _ (EA.out.trans E.out)).mono ?_
  rintro e w1 ⟨rfl, hb⟩
  clear b0 b1 b2 b3 b4 b5
  replace E := hid (E.out.trans hb)
  clear hb
  go_wp2_with fail
  go_ret
  exact ⟨rfl, EA.out.trans E.out⟩
 by_cases hs2 : so = 2
 case neg =>
  have hq2 : (so == 2) = false := by simpa using hs2
  clear h ht hf hso hq hs2
  go_enter Tryd.func5, Tryd.ntmps5
  go_wp2_with fail
  refine (HKN.out _ (EA.out.trans E.out)).mono ?_
  rintro e w1 ⟨rfl, hb⟩
  replace E := hid (E.out.trans hb)
  clear hb
  obtain ⟨⟨b0, b1, b2, b3, b4, b5⟩, -, -⟩ := boxF6 (HB3.out.up E.out)
  go_wp2_with fail
  refine (HF.out _ (EA.out.trans E.out)).mono ?_
  rintro e w1 ⟨rfl, hb⟩
  clear b0 b1 b2 b3 b4 b5
  replace E := hid (E.out.trans hb)
  clear hb
  obtain ⟨⟨b0, b1, b2, b3, b4, b5⟩, -, -⟩ := boxF6 (HB3.out.up E.out)
  go_wp2_with fail
  refine (HI.out _ (EA.out.trans E.out)).mono ?_
  rintro e w1 ⟨rfl, hb⟩
  clear b0 b1 b2 b3 b4 b5
  replace E := hid (E.out.trans hb)
  clear hb
  obtain ⟨⟨b0, b1, b2, b3, b4, b5⟩, -, -⟩ := boxF6 (HB3.out.up E.out)
  go_wp2_with fail
  go_ret
  exact ⟨rfl, EA.out.trans E.out⟩
 subst hs2
 have HN := hid (show M.kNo t 120 from ⟨hq, hso, by
  unfold M.kfewT at hf
  simp only [Bool.and_eq_true, decide_eq_true_eq] at hf
  exact hf.1⟩)
 have HFW := hid (M.kfewT_few hf)
 have HT := hid ht
 have HTm := hid h
 obtain ⟨K, z, hKt, hKf, hKn, hz, hKw⟩ : ∃ K z, (neg = true → K = M.numN nI) ∧ (neg = false → K = M.knumT nI) ∧ (M.kNo K 2 ∧ M.knum K = some z) ∧ (z = 0 ↔ nI = 0) ∧ M.kfew K = true := by
  cases neg
  ·exact ⟨M.knumT nI, nI, fun h => Bool.noConfusion h, fun _ => rfl, ⟨(M.knumT_is nI).le (by omega), M.knumT_num nI⟩, Iff.rfl, M.few_num h1 h2⟩
  ·refine ⟨M.numN nI, -nI, fun _ => rfl, fun h => Bool.noConfusion h, ⟨M.numN_is nI, M.numN_num nI⟩, by omega, ?_⟩
   rw [M.numN, M.kfew]
   simp [M.kfews, M.few_num h1 h2]
 obtain ⟨cx, hcx⟩ : ∃ x, (M.kmake 15 [M.xI, t]).2 = x := ⟨_, rfl⟩
 obtain ⟨cd, hcd⟩ : ∃ x, (M.kmake 16 [t, K]).2 = x := ⟨_, rfl⟩
 obtain ⟨y, hy⟩ : ∃ b, (M.knum t).isSome = b := ⟨_, rfl⟩
 have hcx' : cx = if y = true then 0 else 19 := by rw [← hcx, M.code_x HN.out, hy]
 have hcd' : cd = if nI = 0 then 12 else 0 := by
  rw [← hcd, M.code_div hKn.1 HN.out hKn.2]
  by_cases h0 : nI = 0
  ·rw [if_pos h0, if_pos (hz.2 h0)]
  ·rw [if_neg h0, if_neg (fun h => h0 (hz.1 h))]
 have HCD := hid hcd'
 have HCX := hid hcx'
 have HC := hid (And.intro (M.code_mul hKn.1 HN.out hKn.2) (And.intro hcx (And.intro hcd (M.code_mod HN.out))))
 have HKW := hid hKw
 have HKt := hid hKt
 have HKf := hid hKf
 have HNUM := hid (show ∀ w', Ext w w' → Calls Tryd.prog 24 #[kv op g N nn nc nm 2 A n c] w' (fun e w'' => ∃ b A n c, e = .returned (.tuple #[.agg #[.bool b, .slice A n c], .bool y]) ∧ Ext w' w'') from fun w' e => (knumber_n t (h.up e)).mono fun e w'' ⟨b, A, n, c, h1, _, h2⟩ => ⟨b, A, n, c, hy ▸ h1, h2⟩)
 clear h ht hf hso hq hKt hKf hKn hz hKw hcx hcd hy hcx' hcd'
 obtain ⟨d, hd⟩ : ∃ d, decide (nI < 0) = d := ⟨_, rfl⟩
 have HNU := hid (show ∀ w', Calls Tryd.prog 22 #[.int .i64 nI] w' (fun e w'' => ∃ N1 nn1 nc1 A1 c1, e = .returned (kv 1 d N1 nn1 nc1 [] 2 A1 0 c1) ∧ IsTm w'' (M.knumT nI) (kv 1 d N1 nn1 nc1 [] 2 A1 0 c1) ∧ Ext w' w'') from fun w' => (num_n (Z := nI) (by omega) (by omega) w').mono fun e w'' ⟨v, h1, h2, h3⟩ => by
  have h2' := h2
  obtain ⟨N1, nn1, nc1, A1, c1, rfl, -, -⟩ := h2
  subst hd
  exact ⟨N1, nn1, nc1, A1, c1, h1, h2', h3⟩)
 have HFN := hid (M.few_num h1 h2)
 have HN14 := hid (show ∀ w' gb N1 nn1 nc1 A1 c1, Ext w w' → IsTm w' (M.knumT nI) (kv 1 d N1 nn1 nc1 [] 2 A1 0 c1) → Box w' gb #[.int .i64 1, .bool d, .slice N1 nn1 nc1, str [], .int .i64 2, .slice A1 0 c1] 27 → Calls Tryd.prog 20 #[.int .i64 14, .slice (some ⟨gb, 0, none⟩) 1 1] w' (fun e w'' => ∃ oK gK NK nnK ncK mK sK AK nK cK, e = .returned (.tuple #[kv oK gK NK nnK ncK mK sK AK nK cK, .int .i64 0]) ∧ IsTm (gp (fun b => w'.heap.size ≤ b) w'') (M.numN nI) (kv oK gK NK nnK ncK mK sK AK nK cK) ∧ Ext w' w'') from fun w' gb N1 nn1 nc1 A1 c1 ew hT hB =>
  (make_tn (op := 14) (tms_one hT hB) (by simp [M.kfews, HFN.out]) (HT.out.up ew)).mono fun e w'' ⟨v, h1, h2, h3⟩ => by
   rw [M.numN_make] at h1 h2
   have h2' := h2
   obtain ⟨NK, nnK, ncK, AK, cK, rfl, -, -⟩ := h2
   exact ⟨_, _, NK, nnK, ncK, _, _, AK, _, cK, h1, h2', h3⟩)
 have HCON := hid (show ∀ w', Calls Tryd.prog 23 #[.string ⟨#[120]⟩, .int .i64 2] w' (fun e w'' => ∃ NX nnX ncX AX cX, e = .returned (kv 4 false NX nnX ncX [120] 2 AX 0 cX) ∧ IsTm w'' M.xI (kv 4 false NX nnX ncX [120] 2 AX 0 cX) ∧ Ext w' w'') from fun w' => (con_n [120] 2 w').mono fun e w'' ⟨v, h1, h2, h3⟩ => by
  have h2' := h2
  obtain ⟨NX, nnX, ncX, AX, cX, rfl, -, -⟩ := h2
  exact ⟨NX, nnX, ncX, AX, cX, h1, h2', h3⟩)
 clear hd
 go_enter Tryd.func5, Tryd.ntmps5
 go_wp2_with fail
 refine (HKN.out _ (EA.out.trans E.out)).mono ?_
 rintro e w1 ⟨rfl, hb⟩
 replace E := hid (E.out.trans hb)
 clear hb
 obtain ⟨⟨b0, b1, b2, b3, b4, b5⟩, -, -⟩ := boxF6 (HB3.out.up E.out)
 go_wp2_with fail
 refine (HF.out _ (EA.out.trans E.out)).mono ?_
 rintro e w1 ⟨rfl, hb⟩
 clear b0 b1 b2 b3 b4 b5
 replace E := hid (E.out.trans hb)
 clear hb
 obtain ⟨⟨b0, b1, b2, b3, b4, b5⟩, -, -⟩ := boxF6 (HB3.out.up E.out)
 go_wp2_with fail
 refine (HI.out _ (EA.out.trans E.out)).mono ?_
 rintro e w1 ⟨rfl, hb⟩
 clear b0 b1 b2 b3 b4 b5
 replace E := hid (E.out.trans hb)
 clear hb
 obtain ⟨⟨b0, b1, b2, b3, b4, b5⟩, -, -⟩ := boxF6 (HB3.out.up E.out)
 go_wp2_with fail
 refine (HNU.out _).mono ?_
 rintro e w1 ⟨N1, nn1, nc1, A1, c1, rfl, hT, hb⟩
 clear b0 b1 b2 b3 b4 b5
 have E1 := hid ((E.out.trans hb).alloc' (.cells #[.int .i64 1, .bool d, .slice N1 nn1 nc1, str [], .int .i64 2, .slice A1 0 c1] 27))
 have HT1 := hid (hT.up (Ext.alloc _ (.cells #[.int .i64 1, .bool d, .slice N1 nn1 nc1, str [], .int .i64 2, .slice A1 0 c1] 27)))
 have HB7 := hid (Box.new w1 #[.int .i64 1, .bool d, .slice N1 nn1 nc1, str [], .int .i64 2, .slice A1 0 c1] 27)
 have hk37 : w.heap.size < w1.heap.size := by
  have := (E.out.trans hb).size
  simp at this
  omega
 clear hT hb
 have hmain : ∃ (W : World), Hid (Ext (w.alloc (.cells #[.int .i64 op, .bool g, .slice N nn nc, str nm, .int .i64 2, .slice A n c] 27)) W) ∧ True := ⟨_, E1, trivial⟩
 clear hmain
 cases neg
 case false =>
  obtain ⟨W, hW⟩ : ∃ W, W = w1.alloc (.cells #[.int .i64 1, .bool d, .slice N1 nn1 nc1, str [], .int .i64 2, .slice A1 0 c1] 27) := ⟨_, rfl⟩
  rw [← hW] at E1 HT1 HB7
  obtain ⟨oK, gK, NK, nnK, ncK, mK, sK, AK, nK, cK, HBK, HTK⟩ : ∃ oK gK NK nnK ncK mK sK AK nK cK, Hid (Box W w1.heap.size #[.int .i64 oK, .bool gK, .slice NK nnK ncK, str mK, .int .i64 sK, .slice AK nK cK] 27) ∧ Hid (IsTm W K (kv oK gK NK nnK ncK mK sK AK nK cK)) := ⟨1, d, N1, nn1, nc1, [], 2, A1, 0, c1, HB7, by rw [HKf.out rfl]; exact HT1⟩
  go_wp2_with fail
  rw [← hW]
  clear hW HT1 HB7
  refine (HCON.out _).mono ?_
  rintro e w4 ⟨NX, nnX, ncX, AX, cX, rfl, hX, hb⟩
  have EW := hid ((E1.out.trans hb).alloc' (.cells #[.int .i64 4, .bool false, .slice NX nnX ncX, str [120], .int .i64 2, .slice AX 0 cX] 27))
  have EK := hid (hb.alloc' (.cells #[.int .i64 4, .bool false, .slice NX nnX ncX, str [120], .int .i64 2, .slice AX 0 cX] 27))
  have HTX := hid (hX.up (Ext.alloc _ (.cells #[.int .i64 4, .bool false, .slice NX nnX ncX, str [120], .int .i64 2, .slice AX 0 cX] 27)))
  have HB8 := hid (Box.new w4 #[.int .i64 4, .bool false, .slice NX nnX ncX, str [120], .int .i64 2, .slice AX 0 cX] 27)
  obtain ⟨W8, hW8⟩ : ∃ W, W = w4.alloc (.cells #[.int .i64 4, .bool false, .slice NX nnX ncX, str [120], .int .i64 2, .slice AX 0 cX] 27) := ⟨_, rfl⟩
  rw [← hW8] at EW EK HTX HB8
  have HB7 := hid (HBK.out.up EK.out)
  replace HTK := hid (HTK.out.up EK.out)
  have HB3' := HB3
  replace HB3 := hid (HB3'.out.up EW.out)
  have ET := hid (EA.out.trans EW.out)
  have EX := hid (Ext.refl W8)
  have HK1 := hid (show ∀ w' gb, Ext W8 w' → Box w' gb #[.int .i64 oK, .bool gK, .slice NK nnK ncK, str mK, .int .i64 sK, .slice AK nK cK, .int .i64 op, .bool g, .slice N nn nc, str nm, .int .i64 2, .slice A n c] 27 → Calls Tryd.prog 20 #[.int .i64 15, .slice (some ⟨gb, 0, none⟩) 2 2] w' (GivesCode w' 0) from fun w' gb e hb => make_two (HTK.out.up e) (HTm.out.up (ET.out.trans e)) hb HKW.out HFW.out HC.out.1.1 (HT.out.up (ET.out.trans e)))
  have HK2 := hid (show ∀ w' gb, Ext W8 w' → Box w' gb #[.int .i64 op, .bool g, .slice N nn nc, str nm, .int .i64 2, .slice A n c, .int .i64 oK, .bool gK, .slice NK nnK ncK, str mK, .int .i64 sK, .slice AK nK cK] 27 → Calls Tryd.prog 20 #[.int .i64 15, .slice (some ⟨gb, 0, none⟩) 2 2] w' (GivesCode w' 0) from fun w' gb e hb => make_two (HTm.out.up (ET.out.trans e)) (HTK.out.up e) hb HFW.out HKW.out HC.out.1.2 (HT.out.up (ET.out.trans e)))
  have HK3 := hid (show ∀ w' gb, Ext W8 w' → Box w' gb #[.int .i64 4, .bool false, .slice NX nnX ncX, str [120], .int .i64 2, .slice AX 0 cX, .int .i64 op, .bool g, .slice N nn nc, str nm, .int .i64 2, .slice A n c] 27 → Calls Tryd.prog 20 #[.int .i64 15, .slice (some ⟨gb, 0, none⟩) 2 2] w' (GivesCode w' cx) from fun w' gb e hb => make_two (HTX.out.up e) (HTm.out.up (ET.out.trans e)) hb rfl HFW.out HC.out.2.1 (HT.out.up (ET.out.trans e)))
  have HK4 := hid (show ∀ w' gb, Ext W8 w' → Box w' gb #[.int .i64 op, .bool g, .slice N nn nc, str nm, .int .i64 2, .slice A n c, .int .i64 oK, .bool gK, .slice NK nnK ncK, str mK, .int .i64 sK, .slice AK nK cK] 27 → Calls Tryd.prog 20 #[.int .i64 16, .slice (some ⟨gb, 0, none⟩) 2 2] w' (GivesCode w' cd) from fun w' gb e hb => make_two (HTm.out.up (ET.out.trans e)) (HTK.out.up e) hb HFW.out HKW.out HC.out.2.2.1 (HT.out.up (ET.out.trans e)))
  have HK5 := hid (show ∀ w' gb, Ext W8 w' → Box w' gb #[.int .i64 op, .bool g, .slice N nn nc, str nm, .int .i64 2, .slice A n c, .int .i64 4, .bool false, .slice NX nnX ncX, str [120], .int .i64 2, .slice AX 0 cX] 27 → Calls Tryd.prog 20 #[.int .i64 17, .slice (some ⟨gb, 0, none⟩) 2 2] w' (GivesCode w' 19) from fun w' gb e hb => make_two (HTm.out.up (ET.out.trans e)) (HTX.out.up e) hb HFW.out rfl HC.out.2.2.2 (HT.out.up (ET.out.trans e)))
  obtain ⟨⟨b0, b1, b2, b3, b4, b5⟩, -, -⟩ := boxF6 (HB3.out.up EX.out)
  obtain ⟨⟨a0, a1, a2, a3, a4, a5⟩, -, -⟩ := boxF6 (HB7.out.up EX.out)
  obtain ⟨⟨d0, d1, d2, d3, d4, d5⟩, -, -⟩ := boxF6 (HB8.out.up EX.out)
  clear hX hb
  rw [hW8] at a0 a1 a2 a3 a4 a5 b0 b1 b2 b3 b4 b5 d0 d1 d2 d3 d4 d5
  have EX8 := hid (show ∀ o, Ext W8 ((w4.alloc (.cells #[.int .i64 4, .bool false, .slice NX nnX ncX, str [120], .int .i64 2, .slice AX 0 cX] 27)).alloc o) from fun o => by rw [← hW8]; exact Ext.alloc _ _)
  clear hW8
  go_wp2_with fail
  refine (HK1.out _ _ (EX8.out _) (Box.at_ _ _ (by simp))).mono ?_
  rintro e w5 ⟨o1, g1, N1, nn1, nc1, m1, s1, A1, n1, c1, rfl, hb⟩
  clear b0 b1 b2 b3 b4 b5 a0 a1 a2 a3 a4 a5 d0 d1 d2 d3 d4 d5
  replace EX := hid (((EX8.out _).trans hb).alloc' (.cells #[.int .i64 o1, .bool g1, .slice N1 nn1 nc1, str m1, .int .i64 s1, .slice A1 n1 c1] 27))
  clear hb
  obtain ⟨⟨b0, b1, b2, b3, b4, b5⟩, -, -⟩ := boxF6 (HB3.out.up EX.out)
  obtain ⟨⟨a0, a1, a2, a3, a4, a5⟩, -, -⟩ := boxF6 (HB7.out.up EX.out)
  obtain ⟨⟨d0, d1, d2, d3, d4, d5⟩, -, -⟩ := boxF6 (HB8.out.up EX.out)
  go_wp2_with fail
  refine (HK2.out _ _ (EX.out.alloc' _) (Box.at_ _ _ (by simp))).mono ?_
  rintro e w5 ⟨o1, g1, N1, nn1, nc1, m1, s1, A1, n1, c1, rfl, hb⟩
  clear b0 b1 b2 b3 b4 b5 a0 a1 a2 a3 a4 a5 d0 d1 d2 d3 d4 d5
  replace EX := hid (((EX.out.alloc' _).trans hb).alloc' (.cells #[.int .i64 o1, .bool g1, .slice N1 nn1 nc1, str m1, .int .i64 s1, .slice A1 n1 c1] 27))
  clear hb
  obtain ⟨⟨b0, b1, b2, b3, b4, b5⟩, -, -⟩ := boxF6 (HB3.out.up EX.out)
  obtain ⟨⟨a0, a1, a2, a3, a4, a5⟩, -, -⟩ := boxF6 (HB7.out.up EX.out)
  obtain ⟨⟨d0, d1, d2, d3, d4, d5⟩, -, -⟩ := boxF6 (HB8.out.up EX.out)
  go_wp2_with fail
  refine (HK3.out _ _ (EX.out.alloc' _) (Box.at_ _ _ (by simp))).mono ?_
  rintro e w5 ⟨o1, g1, N1, nn1, nc1, m1, s1, A1, n1, c1, rfl, hb⟩
  clear b0 b1 b2 b3 b4 b5 a0 a1 a2 a3 a4 a5 d0 d1 d2 d3 d4 d5
  replace EX := hid (((EX.out.alloc' _).trans hb).alloc' (.cells #[.int .i64 o1, .bool g1, .slice N1 nn1 nc1, str m1, .int .i64 s1, .slice A1 n1 c1] 27))
  clear hb
  obtain ⟨⟨b0, b1, b2, b3, b4, b5⟩, -, -⟩ := boxF6 (HB3.out.up EX.out)
  obtain ⟨⟨a0, a1, a2, a3, a4, a5⟩, -, -⟩ := boxF6 (HB7.out.up EX.out)
  obtain ⟨⟨d0, d1, d2, d3, d4, d5⟩, -, -⟩ := boxF6 (HB8.out.up EX.out)
  go_wp2_with fail
  refine (HK4.out _ _ (EX.out.alloc' _) (Box.at_ _ _ (by simp))).mono ?_
  rintro e w5 ⟨o1, g1, N1, nn1, nc1, m1, s1, A1, n1, c1, rfl, hb⟩
  clear b0 b1 b2 b3 b4 b5 a0 a1 a2 a3 a4 a5 d0 d1 d2 d3 d4 d5
  replace EX := hid (((EX.out.alloc' _).trans hb).alloc' (.cells #[.int .i64 o1, .bool g1, .slice N1 nn1 nc1, str m1, .int .i64 s1, .slice A1 n1 c1] 27))
  clear hb
  obtain ⟨⟨b0, b1, b2, b3, b4, b5⟩, -, -⟩ := boxF6 (HB3.out.up EX.out)
  obtain ⟨⟨a0, a1, a2, a3, a4, a5⟩, -, -⟩ := boxF6 (HB7.out.up EX.out)
  obtain ⟨⟨d0, d1, d2, d3, d4, d5⟩, -, -⟩ := boxF6 (HB8.out.up EX.out)
  go_wp2_with fail
  refine (HK5.out _ _ (EX.out.alloc' _) (Box.at_ _ _ (by simp))).mono ?_
  rintro e w5 ⟨o1, g1, N1, nn1, nc1, m1, s1, A1, n1, c1, rfl, hb⟩
  clear b0 b1 b2 b3 b4 b5 a0 a1 a2 a3 a4 a5 d0 d1 d2 d3 d4 d5
  replace EX := hid (((EX.out.alloc' _).trans hb).alloc' (.cells #[.int .i64 o1, .bool g1, .slice N1 nn1 nc1, str m1, .int .i64 s1, .slice A1 n1 c1] 27))
  clear hb
  obtain ⟨⟨b0, b1, b2, b3, b4, b5⟩, -, -⟩ := boxF6 (HB3.out.up EX.out)
  obtain ⟨⟨a0, a1, a2, a3, a4, a5⟩, -, -⟩ := boxF6 (HB7.out.up EX.out)
  obtain ⟨⟨d0, d1, d2, d3, d4, d5⟩, -, -⟩ := boxF6 (HB8.out.up EX.out)
  go_wp2_with fail
  refine (HNUM.out _ (ET.out.trans EX.out)).mono ?_
  rintro e w9 ⟨b9, A9, n9, c9, rfl, hb⟩
  clear b0 b1 b2 b3 b4 b5 a0 a1 a2 a3 a4 a5 d0 d1 d2 d3 d4 d5
  replace EX := hid ((EX.out.trans hb).alloc' (.cells #[.bool b9, .slice A9 n9 c9] 24))
  clear hb
  have hcd := HCD.out
  have hcx := HCX.out
  by_cases h0 : nI = 0
  ·subst h0
   obtain rfl : cd = 12 := by simpa using hcd
   cases y
   ·obtain rfl : cx = 19 := by simpa using hcx
    clear hcd hcx
    go_wp2_with fail
    go_ret
    exact ⟨rfl, ET.out.trans EX.out⟩
   ·obtain rfl : cx = 0 := by simpa using hcx
    clear hcd hcx
    go_wp2_with fail
    go_ret
    exact ⟨rfl, ET.out.trans EX.out⟩
  ·obtain rfl : cd = 0 := by simpa [h0] using hcd
   cases y
   ·obtain rfl : cx = 19 := by simpa using hcx
    clear hcd hcx
    go_wp2_with fail
    go_ret
    exact ⟨rfl, ET.out.trans EX.out⟩
   ·obtain rfl : cx = 0 := by simpa using hcx
    clear hcd hcx
    go_wp2_with fail
    go_ret
    exact ⟨rfl, ET.out.trans EX.out⟩
 case true =>
  go_wp2_with fail
  refine (HNU.out _).mono ?_
  rintro e w2 ⟨N2, nn2, nc2, A2, c2, rfl, hT2, hb2⟩
  have E2 := hid (E1.out.trans hb2)
  have HB7' := hid (HB7.out.up hb2)
  have HT2 := hid hT2
  clear hT2 hb2
  go_wp2_with fail
  refine (HN14.out _ _ N2 nn2 nc2 A2 c2 (EA.out.trans (E2.out.alloc' _)) (HT2.out.up (Ext.alloc _ _)) (Box.new _ _ _)).mono ?_
  rintro e w3 ⟨oK, gK, NK, nnK, ncK, mK, sK, AK, nK, cK, rfl, hTK, hb3⟩
  have hlt : w1.heap.size < (w2.alloc (.cells #[.int .i64 1, .bool d, .slice N2 nn2 nc2, str [], .int .i64 2, .slice A2 0 c2] 27)).heap.size := Nat.lt_of_lt_of_le HB7'.out.lt (by simp)
  have HTK0 := hid (show IsTm (put6 w3 w1.heap.size (.int .i64 oK) (.bool gK) (.slice NK nnK ncK) (str mK) (.int .i64 sK) (.slice AK nK cK)) K (kv oK gK NK nnK ncK mK sK AK nK cK) from (HKt.out (by first | trivial | rfl)).symm ▸ new_put hTK hlt)
  have HB7a := hid ((HB7'.out.alloc _).up hb3)
  have E3 := hid ((E2.out.alloc' _).trans hb3)
  obtain ⟨⟨r0, r1, r2, r3, r4, r5⟩, ⟨f0, f1, f2, f3, f4, f5⟩, hzr⟩ := boxF6 HB7a.out
  clear hTK hb3 hlt
  go_wp2_with fail
  obtain ⟨W, hW⟩ : ∃ W, W = ((((((w3.setCell ⟨w1.heap.size, 0, none⟩ (.int .i64 oK)).setCell ⟨w1.heap.size, 1, none⟩ (.bool gK)).setCell ⟨w1.heap.size, 2, none⟩ (.slice NK nnK ncK)).setCell ⟨w1.heap.size, 3, none⟩ (.string ⟨mK.toArray⟩)).setCell ⟨w1.heap.size, 4, none⟩ (.int .i64 sK)).setCell ⟨w1.heap.size, 5, none⟩ (.slice AK nK cK)) := ⟨_, rfl⟩
  have HBK := hid (show Box W w1.heap.size #[.int .i64 oK, .bool gK, .slice NK nnK ncK, str mK, .int .i64 sK, .slice AK nK cK] 27 from hW ▸ (((((HB7a.out.setAt 0 _).setAt 1 _).setAt 2 _).setAt 3 _).setAt 4 _).setAt 5 _)
  have HTK := hid (show IsTm W K (kv oK gK NK nnK ncK mK sK AK nK cK) from hW ▸ HTK0.out)
  replace E1 := hid (show Ext (w.alloc (.cells #[.int .i64 op, .bool g, .slice N nn nc, str nm, .int .i64 2, .slice A n c] 27)) W from hW ▸ put6_ext E3.out (by simp; omega))
  rw [← hW]
  clear hW HT1 HB7 HB7' HB7a HTK0 E2 E3 HT2 r0 r1 r2 r3 r4 r5 f0 f1 f2 f3 f4 f5 hzr
  refine (HCON.out _).mono ?_
  rintro e w4 ⟨NX, nnX, ncX, AX, cX, rfl, hX, hb⟩
  have EW := hid ((E1.out.trans hb).alloc' (.cells #[.int .i64 4, .bool false, .slice NX nnX ncX, str [120], .int .i64 2, .slice AX 0 cX] 27))
  have EK := hid (hb.alloc' (.cells #[.int .i64 4, .bool false, .slice NX nnX ncX, str [120], .int .i64 2, .slice AX 0 cX] 27))
  have HTX := hid (hX.up (Ext.alloc _ (.cells #[.int .i64 4, .bool false, .slice NX nnX ncX, str [120], .int .i64 2, .slice AX 0 cX] 27)))
  have HB8 := hid (Box.new w4 #[.int .i64 4, .bool false, .slice NX nnX ncX, str [120], .int .i64 2, .slice AX 0 cX] 27)
  obtain ⟨W8, hW8⟩ : ∃ W, W = w4.alloc (.cells #[.int .i64 4, .bool false, .slice NX nnX ncX, str [120], .int .i64 2, .slice AX 0 cX] 27) := ⟨_, rfl⟩
  rw [← hW8] at EW EK HTX HB8
  have HB7 := hid (HBK.out.up EK.out)
  replace HTK := hid (HTK.out.up EK.out)
  have HB3' := HB3
  replace HB3 := hid (HB3'.out.up EW.out)
  have ET := hid (EA.out.trans EW.out)
  have EX := hid (Ext.refl W8)
  have HK1 := hid (show ∀ w' gb, Ext W8 w' → Box w' gb #[.int .i64 oK, .bool gK, .slice NK nnK ncK, str mK, .int .i64 sK, .slice AK nK cK, .int .i64 op, .bool g, .slice N nn nc, str nm, .int .i64 2, .slice A n c] 27 → Calls Tryd.prog 20 #[.int .i64 15, .slice (some ⟨gb, 0, none⟩) 2 2] w' (GivesCode w' 0) from fun w' gb e hb => make_two (HTK.out.up e) (HTm.out.up (ET.out.trans e)) hb HKW.out HFW.out HC.out.1.1 (HT.out.up (ET.out.trans e)))
  have HK2 := hid (show ∀ w' gb, Ext W8 w' → Box w' gb #[.int .i64 op, .bool g, .slice N nn nc, str nm, .int .i64 2, .slice A n c, .int .i64 oK, .bool gK, .slice NK nnK ncK, str mK, .int .i64 sK, .slice AK nK cK] 27 → Calls Tryd.prog 20 #[.int .i64 15, .slice (some ⟨gb, 0, none⟩) 2 2] w' (GivesCode w' 0) from fun w' gb e hb => make_two (HTm.out.up (ET.out.trans e)) (HTK.out.up e) hb HFW.out HKW.out HC.out.1.2 (HT.out.up (ET.out.trans e)))
  have HK3 := hid (show ∀ w' gb, Ext W8 w' → Box w' gb #[.int .i64 4, .bool false, .slice NX nnX ncX, str [120], .int .i64 2, .slice AX 0 cX, .int .i64 op, .bool g, .slice N nn nc, str nm, .int .i64 2, .slice A n c] 27 → Calls Tryd.prog 20 #[.int .i64 15, .slice (some ⟨gb, 0, none⟩) 2 2] w' (GivesCode w' cx) from fun w' gb e hb => make_two (HTX.out.up e) (HTm.out.up (ET.out.trans e)) hb rfl HFW.out HC.out.2.1 (HT.out.up (ET.out.trans e)))
  have HK4 := hid (show ∀ w' gb, Ext W8 w' → Box w' gb #[.int .i64 op, .bool g, .slice N nn nc, str nm, .int .i64 2, .slice A n c, .int .i64 oK, .bool gK, .slice NK nnK ncK, str mK, .int .i64 sK, .slice AK nK cK] 27 → Calls Tryd.prog 20 #[.int .i64 16, .slice (some ⟨gb, 0, none⟩) 2 2] w' (GivesCode w' cd) from fun w' gb e hb => make_two (HTm.out.up (ET.out.trans e)) (HTK.out.up e) hb HFW.out HKW.out HC.out.2.2.1 (HT.out.up (ET.out.trans e)))
  have HK5 := hid (show ∀ w' gb, Ext W8 w' → Box w' gb #[.int .i64 op, .bool g, .slice N nn nc, str nm, .int .i64 2, .slice A n c, .int .i64 4, .bool false, .slice NX nnX ncX, str [120], .int .i64 2, .slice AX 0 cX] 27 → Calls Tryd.prog 20 #[.int .i64 17, .slice (some ⟨gb, 0, none⟩) 2 2] w' (GivesCode w' 19) from fun w' gb e hb => make_two (HTm.out.up (ET.out.trans e)) (HTX.out.up e) hb HFW.out rfl HC.out.2.2.2 (HT.out.up (ET.out.trans e)))
  obtain ⟨⟨b0, b1, b2, b3, b4, b5⟩, -, -⟩ := boxF6 (HB3.out.up EX.out)
  obtain ⟨⟨a0, a1, a2, a3, a4, a5⟩, -, -⟩ := boxF6 (HB7.out.up EX.out)
  obtain ⟨⟨d0, d1, d2, d3, d4, d5⟩, -, -⟩ := boxF6 (HB8.out.up EX.out)
  clear hX hb
  rw [hW8] at a0 a1 a2 a3 a4 a5 b0 b1 b2 b3 b4 b5 d0 d1 d2 d3 d4 d5
  have EX8 := hid (show ∀ o, Ext W8 ((w4.alloc (.cells #[.int .i64 4, .bool false, .slice NX nnX ncX, str [120], .int .i64 2, .slice AX 0 cX] 27)).alloc o) from fun o => by rw [← hW8]; exact Ext.alloc _ _)
  clear hW8
  go_wp2_with fail
  refine (HK1.out _ _ (EX8.out _) (Box.at_ _ _ (by simp))).mono ?_
  rintro e w5 ⟨o1, g1, N1, nn1, nc1, m1, s1, A1, n1, c1, rfl, hb⟩
  clear b0 b1 b2 b3 b4 b5 a0 a1 a2 a3 a4 a5 d0 d1 d2 d3 d4 d5
  replace EX := hid (((EX8.out _).trans hb).alloc' (.cells #[.int .i64 o1, .bool g1, .slice N1 nn1 nc1, str m1, .int .i64 s1, .slice A1 n1 c1] 27))
  clear hb
  obtain ⟨⟨b0, b1, b2, b3, b4, b5⟩, -, -⟩ := boxF6 (HB3.out.up EX.out)
  obtain ⟨⟨a0, a1, a2, a3, a4, a5⟩, -, -⟩ := boxF6 (HB7.out.up EX.out)
  obtain ⟨⟨d0, d1, d2, d3, d4, d5⟩, -, -⟩ := boxF6 (HB8.out.up EX.out)
  go_wp2_with fail
  refine (HK2.out _ _ (EX.out.alloc' _) (Box.at_ _ _ (by simp))).mono ?_
  rintro e w5 ⟨o1, g1, N1, nn1, nc1, m1, s1, A1, n1, c1, rfl, hb⟩
  clear b0 b1 b2 b3 b4 b5 a0 a1 a2 a3 a4 a5 d0 d1 d2 d3 d4 d5
  replace EX := hid (((EX.out.alloc' _).trans hb).alloc' (.cells #[.int .i64 o1, .bool g1, .slice N1 nn1 nc1, str m1, .int .i64 s1, .slice A1 n1 c1] 27))
  clear hb
  obtain ⟨⟨b0, b1, b2, b3, b4, b5⟩, -, -⟩ := boxF6 (HB3.out.up EX.out)
  obtain ⟨⟨a0, a1, a2, a3, a4, a5⟩, -, -⟩ := boxF6 (HB7.out.up EX.out)
  obtain ⟨⟨d0, d1, d2, d3, d4, d5⟩, -, -⟩ := boxF6 (HB8.out.up EX.out)
  go_wp2_with fail
  refine (HK3.out _ _ (EX.out.alloc' _) (Box.at_ _ _ (by simp))).mono ?_
  rintro e w5 ⟨o1, g1, N1, nn1, nc1, m1, s1, A1, n1, c1, rfl, hb⟩
  clear b0 b1 b2 b3 b4 b5 a0 a1 a2 a3 a4 a5 d0 d1 d2 d3 d4 d5
  replace EX := hid (((EX.out.alloc' _).trans hb).alloc' (.cells #[.int .i64 o1, .bool g1, .slice N1 nn1 nc1, str m1, .int .i64 s1, .slice A1 n1 c1] 27))
  clear hb
  obtain ⟨⟨b0, b1, b2, b3, b4, b5⟩, -, -⟩ := boxF6 (HB3.out.up EX.out)
  obtain ⟨⟨a0, a1, a2, a3, a4, a5⟩, -, -⟩ := boxF6 (HB7.out.up EX.out)
  obtain ⟨⟨d0, d1, d2, d3, d4, d5⟩, -, -⟩ := boxF6 (HB8.out.up EX.out)
  go_wp2_with fail
  refine (HK4.out _ _ (EX.out.alloc' _) (Box.at_ _ _ (by simp))).mono ?_
  rintro e w5 ⟨o1, g1, N1, nn1, nc1, m1, s1, A1, n1, c1, rfl, hb⟩
  clear b0 b1 b2 b3 b4 b5 a0 a1 a2 a3 a4 a5 d0 d1 d2 d3 d4 d5
  replace EX := hid (((EX.out.alloc' _).trans hb).alloc' (.cells #[.int .i64 o1, .bool g1, .slice N1 nn1 nc1, str m1, .int .i64 s1, .slice A1 n1 c1] 27))
  clear hb
  obtain ⟨⟨b0, b1, b2, b3, b4, b5⟩, -, -⟩ := boxF6 (HB3.out.up EX.out)
  obtain ⟨⟨a0, a1, a2, a3, a4, a5⟩, -, -⟩ := boxF6 (HB7.out.up EX.out)
  obtain ⟨⟨d0, d1, d2, d3, d4, d5⟩, -, -⟩ := boxF6 (HB8.out.up EX.out)
  go_wp2_with fail
  refine (HK5.out _ _ (EX.out.alloc' _) (Box.at_ _ _ (by simp))).mono ?_
  rintro e w5 ⟨o1, g1, N1, nn1, nc1, m1, s1, A1, n1, c1, rfl, hb⟩
  clear b0 b1 b2 b3 b4 b5 a0 a1 a2 a3 a4 a5 d0 d1 d2 d3 d4 d5
  replace EX := hid (((EX.out.alloc' _).trans hb).alloc' (.cells #[.int .i64 o1, .bool g1, .slice N1 nn1 nc1, str m1, .int .i64 s1, .slice A1 n1 c1] 27))
  clear hb
  obtain ⟨⟨b0, b1, b2, b3, b4, b5⟩, -, -⟩ := boxF6 (HB3.out.up EX.out)
  obtain ⟨⟨a0, a1, a2, a3, a4, a5⟩, -, -⟩ := boxF6 (HB7.out.up EX.out)
  obtain ⟨⟨d0, d1, d2, d3, d4, d5⟩, -, -⟩ := boxF6 (HB8.out.up EX.out)
  go_wp2_with fail
  refine (HNUM.out _ (ET.out.trans EX.out)).mono ?_
  rintro e w9 ⟨b9, A9, n9, c9, rfl, hb⟩
  clear b0 b1 b2 b3 b4 b5 a0 a1 a2 a3 a4 a5 d0 d1 d2 d3 d4 d5
  replace EX := hid ((EX.out.trans hb).alloc' (.cells #[.bool b9, .slice A9 n9 c9] 24))
  clear hb
  have hcd := HCD.out
  have hcx := HCX.out
  by_cases h0 : nI = 0
  ·subst h0
   obtain rfl : cd = 12 := by simpa using hcd
   cases y
   ·obtain rfl : cx = 19 := by simpa using hcx
    clear hcd hcx
    go_wp2_with fail
    go_ret
    exact ⟨rfl, ET.out.trans EX.out⟩
   ·obtain rfl : cx = 0 := by simpa using hcx
    clear hcd hcx
    go_wp2_with fail
    go_ret
    exact ⟨rfl, ET.out.trans EX.out⟩
  ·obtain rfl : cd = 0 := by simpa [h0] using hcd
   cases y
   ·obtain rfl : cx = 19 := by simpa using hcx
    clear hcd hcx
    go_wp2_with fail
    go_ret
    exact ⟨rfl, ET.out.trans EX.out⟩
   ·obtain rfl : cx = 0 := by simpa using hcx
    clear hcd hcx
    go_wp2_with fail
    go_ret
    exact ⟨rfl, ET.out.trans EX.out⟩
theorem linear_t {t : M.Tm} {v : Value} {nI : Int} {neg : Bool} {w : World} (h : IsTm w t v) (hw : (Lit.int .i16 nI).wf = true) (ht : Tab w) : Calls Tryd.prog 5 #[v, .int .i16 nI, .bool neg] w (GivesB w true) := by
 have h' : -32768 ≤ nI ∧ nI ≤ 32767 := by simpa [Lit.wf, IntKind.min, IntKind.max, IntKind.signed, IntKind.bits] using hw
 exact linear_law h h'.1 h'.2 ht
end Go.Proofs.YtaoboilkpgphaaaDoor.Q
