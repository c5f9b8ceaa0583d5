/-
  Layer 11's laws, mathematics: what is said of the trees with shadows.
-/
import Derived.Test.YtgkofipifjfjhaaGreatDoorJSF
import Derived.Test.YtgkofipifjfjhaaGreatDoorJTO
import Derived.Test.YtgkofipifjfjhaaGreatDoorJQR
import Derived.Lib.ItoaLen
import Derived.Test.YtgkofipifjfjhaaGreatDoorJRP
namespace Go.Proofs.YtgkofipifjfjhaaGreatDoor.Q
set_option linter.unusedSimpArgs false
set_option linter.unusedVariables false
open Go.RowKit
namespace M
/-- A number below 65536, as it is printed. -/
def okNum (s : List UInt8) (Z : Int) : Prop := s.length ≤ 40 ∧ leafOk (3, s) = true ∧ M.perr s = 0 ∧ M.pval s = Z
def shadT (x y : List UInt8) : T := LI [SY [108, 101, 116], LI [LI [SY [118], NU x]], LI [SY [45], LI [SY [108, 101, 116], LI [LI [SY [118], NU y], LI [SY [119], SY [118]]], LI [SY [43], SY [118], SY [119]]], SY [118]]]
def shadTm (a b : Int) : Tm := .mk 14 false [] [] 2 [.mk 13 false [] [] 2 [knumT b, knumT a], knumT a]
theorem shad_txt {x y : List UInt8} {a b : Int} (hx : okNum x a) (hy : okNum y b) : txtN (shadT x y) = true := by
 have h1 := hx.1
 have h2 := hy.1
 simp [shadT, txtN, txtNs, h1, h2]
theorem shad_isU {x y : List UInt8} {a b : Int} (hx : okNum x a) (hy : okNum y b) : isU (shadT x y) = true := by
 have h1 := hx.2.1
 have h2 := hy.2.1
 have k1 : leafOk (4, [108, 101, 116]) = true := by kernel_rfl
 have k2 : leafOk (4, [118]) = true := by kernel_rfl
 have k3 : leafOk (4, [45]) = true := by kernel_rfl
 have k4 : leafOk (4, [119]) = true := by kernel_rfl
 have k5 : leafOk (4, [43]) = true := by kernel_rfl
 unfold isU shadT
 simp [cnt, cnts, dep, deps, formT, formTs, h1, h2, k1, k2, k3, k4, k5]
theorem rd_num {l : List Sg} {n : Nat} {b : List Bd} {x : List UInt8} {a : Int} (hx : okNum x a) : rd barred l (n + 1) b (NU x) = (knumT a, 0) := by
 rw [rd]
 show (if false = true then _ else if (3 : Int) = 3 then rnum x else _) = _
 rw [if_neg (by decide), if_pos rfl]
 unfold rnum
 rw [hx.2.2.1, hx.2.2.2]
 rfl
theorem rd_list (l : List Sg) (n : Nat) (b : List Bd) (ks : List T) : rd barred l (n + 1) b (LI ks) = rlist barred l (rd barred l n) b ks := by
 rw [rd]; rfl
theorem rlist_let (l : List Sg) (f : List Bd → T → Tm × Int) (b : List Bd) (r : List T) : rlist barred l f b (SY [108, 101, 116] :: r) = rlet f b r := by kernel_rfl
theorem rlist_add (l : List Sg) (f : List Bd → T → Tm × Int) (b : List Bd) (r : List T) : rlist barred l f b (SY [43] :: r) = rop (f b) 13 r := by kernel_rfl
theorem rlist_sub (l : List Sg) (f : List Bd → T → Tm × Int) (b : List Bd) (r : List T) : rlist barred l f b (SY [45] :: r) = rop (f b) 14 r := by kernel_rfl
theorem mapE_one {α : Type} {f : α → Tm × Int} {x : α} {t : Tm} (h : f x = (t, 0)) : mapE f [x] = ([t], 0) := by
 rw [mapE_ok (by intro y hy; simp at hy; subst hy; rw [h])]; simp [h]
theorem mapE_two {α : Type} {f : α → Tm × Int} {x y : α} {t u : Tm} (h : f x = (t, 0)) (h' : f y = (u, 0)) : mapE f [x, y] = ([t, u], 0) := by
 rw [mapE_ok (by intro z hz; simp at hz; rcases hz with rfl | rfl <;> simp [h, h'])]; simp [h, h']
theorem rlet_said {f : List Bd → T → Tm × Int} {b : List Bd} {p t : T} {ts : List Tm} (hp : pairedT p = true) (hn : freeN (p.kids.map pName) = true) (hm : mapE (f b) (p.kids.map pTree) = (ts, 0)) : rlet f b [p, t] = f (b ++ (p.kids.map pName).zip ts) t := by
 unfold rlet
 simp only [hp, hn, hm]
 rfl
theorem rop_said {f : T → Tm × Int} {op : Nat} {ks : List T} {ts : List Tm} (hm : mapE f ks = (ts, 0)) : rop f op ks = kmake (op : Int) ts := by
 unfold rop
 simp only [hm]
 rfl
theorem kmake_two {op : Int} (ho : op = 13 ∨ op = 14) {t u : Tm} (h1 : kIs t = true) (h2 : kIs u = true) (s1 : t.sort = 2) (s2 : u.sort = 2) (hc0 : kcnt t + kcnt u < 400) : kmake op [t, u] = (.mk op false [] [] 2 [t, u], 0) := by
 have hc : kcheck op [t, u] = 0 := by
  rcases ho with rfl | rfl <;> simp [kcheck, ksorted, kall, klin, s1, s2, kcnts] <;> omega
 have hr : kres op [t, u] = 2 := by rcases ho with rfl | rfl <;> simp [kres]
 have ha : kargs op 2 = true := by rcases ho with rfl | rfl <;> rfl
 unfold kmake
 rw [if_neg (by rcases ho with rfl | rfl <;> decide), if_neg (by simp [ha]), if_neg (by simp [kIss, h1, h2]), if_neg (by simp [hc]), hr]
theorem kIs_two {op : Int} (ho : op = 13 ∨ op = 14) {t u : Tm} (h1 : kIs t = true) (h2 : kIs u = true) (s1 : t.sort = 2) (s2 : u.sort = 2) (hf : kfews [t, u] = true) (hc : kcnt t + kcnt u < 400) : kIs (.mk op false [] [] 2 [t, u]) = true := by
 have := (kmake_okR (op := op) hf).1 (by rw [kmake_two ho h1 h2 s1 s2 hc])
 rw [kmake_two ho h1 h2 s1 s2 hc] at this
 exact this.1
theorem shad_term {x y : List UInt8} {a b : Int} (hx : okNum x a) (hy : okNum y b) (ha : kfew (knumT a) = true) (hb : kfew (knumT b) = true) : rTerm barred [] (shadT x y) = (shadTm a b, 0) := by
 have nx : ∀ n b', rd barred [] (n + 1) b' (NU x) = (knumT a, 0) := fun n b' => rd_num hx
 have ny : ∀ n b', rd barred [] (n + 1) b' (NU y) = (knumT b, 0) := fun n b' => rd_num hy
 have i1 : mapE (rd barred [] 58 [([118], knumT a)]) [NU y, SY [118]] = ([knumT b, knumT a], 0) := mapE_two (ny 57 _) rfl
 have i2 : mapE (rd barred [] 57 [([118], knumT a), ([118], knumT b), ([119], knumT a)]) [SY [118], SY [119]] = ([knumT b, knumT a], 0) := mapE_two rfl rfl
 have ca : ∀ Z, kcnt (knumT Z) = 1 := fun Z => by rw [knumT, kcnt, kcnts]
 have m1 := kmake_two (op := 13) (.inl rfl) (kIs_num b) (kIs_num a) rfl rfl (by rw [ca, ca]; decide)
 have f1 : kIs (.mk 13 false [] [] 2 [knumT b, knumT a]) = true := kIs_two (.inl rfl) (kIs_num b) (kIs_num a) rfl rfl (by simp [kfews, ha, hb]) (by rw [ca, ca]; decide)
 have m2 := kmake_two (op := 14) (.inr rfl) f1 (kIs_num a) rfl rfl (by rw [kcnt, kcnts, kcnts, kcnts, ca, ca]; decide)
 have inner : rd barred [] 59 [([118], knumT a)] (LI [SY [108, 101, 116], LI [LI [SY [118], NU y], LI [SY [119], SY [118]]], LI [SY [43], SY [118], SY [119]]]) = (.mk 13 false [] [] 2 [knumT b, knumT a], 0) := by
  rw [rd_list, rlist_let, rlet_said (ts := [knumT b, knumT a]) rfl (by kernel_rfl) i1]
  show rd barred [] 58 [([118], knumT a), ([118], knumT b), ([119], knumT a)] (LI [SY [43], SY [118], SY [119]]) = _
  rw [rd_list, rlist_add, rop_said i2]
  exact m1
 have i3 : mapE (rd barred [] 59 [([118], knumT a)]) [LI [SY [108, 101, 116], LI [LI [SY [118], NU y], LI [SY [119], SY [118]]], LI [SY [43], SY [118], SY [119]]], SY [118]] = ([.mk 13 false [] [] 2 [knumT b, knumT a], knumT a], 0) := mapE_two inner rfl
 unfold rTerm
 rw [shad_isU hx hy, if_pos rfl]
 unfold shadT
 rw [rd_list, rlist_let, rlet_said (ts := [knumT a]) rfl (by kernel_rfl) (mapE_one (nx 59 _))]
 show rd barred [] 60 [([118], knumT a)] (LI [SY [45], LI [SY [108, 101, 116], LI [LI [SY [118], NU y], LI [SY [119], SY [118]]], LI [SY [43], SY [118], SY [119]]], SY [118]]) = _
 rw [rd_list, rlist_sub, rop_said i3]
 exact m2
end M
end Go.Proofs.YtgkofipifjfjhaaGreatDoor.Q

/-
  Layer 11's laws, mathematics: numerals; the trees that tell ErrName.
-/
namespace Go.Proofs.YtgkofipifjfjhaaGreatDoor.Q
set_option linter.unusedSimpArgs false
set_option linter.unusedVariables false
open Go.RowKit
namespace M
theorem dig_eq (b : UInt8) : dig b = M.digit b := by
 have h : ∀ n : Fin 256, dig (UInt8.ofNat n.val) = M.digit (UInt8.ofNat n.val) := by decide +kernel
 have := h ⟨b.toNat, UInt8.toNat_lt b⟩
 simpa using this
theorem isNum_dec (n : Nat) : isNum (Lib.decDigits n) = true := by
 have h := M.numeral_dec n
 rcases hd : Lib.decDigits n with _ | ⟨b, r⟩
 ·rw [hd] at h; simp [M.numeral] at h
 ·rw [hd] at h
  unfold isNum
  unfold M.numeral at h
  simp only at h ⊢
  by_cases h48 : b = 48
  ·subst h48
   rw [if_pos rfl]
   rw [if_pos (by decide)] at h
   exact h
  ·have hne : b.toNat ≠ 48 := fun e => h48 (UInt8.toNat_inj.1 e)
   rw [if_neg h48]
   rw [if_neg hne] at h
   rw [List.all_eq_true] at h ⊢
   intro x hx
   rw [dig_eq]
   exact h x hx
theorem leafOk_dec {n : Nat} (h : n < 65536) : leafOk (3, Lib.decDigits n) = true := by
 have hl : (Lib.decDigits n).length ≤ 20 := by rw [Lib.decDigits_length]; exact Lib.nDigits_le20 _ (by omega)
 have hs := scan_word (t := (3, Lib.decDigits n)) (rest := []) (.inr (.inr (.inl ⟨rfl, isNum_dec n⟩))) (.inl rfl)
 have hw : word (3, Lib.decDigits n) = Lib.decDigits n := rfl
 rw [hw, List.append_nil, scan_nil (l := []) rfl] at hs
 have hp : print [(3, Lib.decDigits n)] = Lib.decDigits n := by
  show word (3, Lib.decDigits n) ++ [] = _
  rw [List.append_nil, hw]
 unfold leafOk
 rw [hp]
 unfold wToks
 rw [if_neg (by omega), hs]
 simp
theorem okNum_dec {n : Nat} (h : n < 65536) : okNum (Lib.decDigits n) (n : Int) := by
 have hl : (Lib.decDigits n).length ≤ 20 := by rw [Lib.decDigits_length]; exact Lib.nDigits_le20 _ (by omega)
 have hpp := M.parse_print (n : Int) (by rw [Lib.decDigits_length] at hl; simp; omega)
 have hpr : Go.Proofs.YtgkofipifjfjhaaGreatDoor.M.print (n : Int) = Lib.decDigits n := by
  unfold Go.Proofs.YtgkofipifjfjhaaGreatDoor.M.print
  rw [if_neg (by omega)]; rfl
 refine ⟨by omega, leafOk_dec h, ?_, ?_⟩
 ·have := hpp.1; rwa [hpr] at this
 ·have := hpp.2; rwa [hpr] at this
def twiceT (x y : List UInt8) : T := LI [SY [108, 101, 116], LI [LI [SY [118], NU x], LI [SY [118], NU y]], SY [118]]
def andT (x : List UInt8) : T := LI [SY [108, 101, 116], LI [LI [SY [97, 110, 100], NU x]], NU x]
theorem twice_txt {x y : List UInt8} {a b : Int} (hx : okNum x a) (hy : okNum y b) : txtN (twiceT x y) = true := by
 have h1 := hx.1
 have h2 := hy.1
 simp [twiceT, txtN, txtNs, h1, h2]
theorem and_txt {x : List UInt8} {a : Int} (hx : okNum x a) : txtN (andT x) = true := by
 have h1 := hx.1
 simp [andT, txtN, txtNs, h1]
theorem rlet_not {f : List Bd → T → Tm × Int} {b : List Bd} {p t : T} (hp : pairedT p = true) (hn : freeN (p.kids.map pName) = false) : rlet f b [p, t] = (K0, 16) := by
 unfold rlet
 simp only [hp, hn]
 rfl
theorem twice_term {x y : List UInt8} {a b : Int} (hx : okNum x a) (hy : okNum y b) : rTerm barred [] (twiceT x y) = (K0, 16) := by
 have h1 := hx.2.1
 have h2 := hy.2.1
 have k1 : leafOk (4, [108, 101, 116]) = true := by kernel_rfl
 have k2 : leafOk (4, [118]) = true := by kernel_rfl
 have hu : isU (twiceT x y) = true := by
  unfold isU twiceT
  simp [cnt, cnts, dep, deps, formT, formTs, h1, h2, k1, k2]
 unfold rTerm
 rw [hu, if_pos rfl]
 unfold twiceT
 rw [rd_list, rlist_let, rlet_not rfl (by kernel_rfl)]
theorem and_term {x : List UInt8} {a : Int} (hx : okNum x a) : rTerm barred [] (andT x) = (K0, 16) := by
 have h1 := hx.2.1
 have k1 : leafOk (4, [108, 101, 116]) = true := by kernel_rfl
 have k2 : leafOk (4, [97, 110, 100]) = true := by kernel_rfl
 have hu : isU (andT x) = true := by
  unfold isU andT
  simp [cnt, cnts, dep, deps, formT, formTs, h1, k1, k2]
 unfold rTerm
 rw [hu, if_pos rfl]
 unfold andT
 rw [rd_list, rlist_let, rlet_not rfl (by kernel_rfl)]
theorem few_num {s : List UInt8} {Z : Int} (h : okNum s Z) : kfew (knumT Z) = true := by
 have h1 := (rnum_ok s).few
 unfold rnum at h1
 rw [h.2.2.1, h.2.2.2] at h1
 exact h1
theorem shad_said {x y : List UInt8} {a b : Int} (hx : okNum x a) (hy : okNum y b) : rTerm barred [] (shadT x y) = (shadTm a b, 0) := shad_term hx hy (few_num hx) (few_num hy)
theorem shad_kis {x y : List UInt8} {a b : Int} (hx : okNum x a) (hy : okNum y b) : kis (shadTm a b) = true := by
 have h := shad_said hx hy
 unfold rTerm at h
 rw [shad_isU hx hy, if_pos rfl] at h
 have h2 := (rd_ok barred [] 61 [] (shadT x y) goodB_nil).1 (by rw [h])
 rw [h] at h2
 exact kis_of h2.1
theorem ksame_shad (a b : Int) : ksame (shadTm a b) (shadTm a b) = true := ksame_refl _
end M
end Go.Proofs.YtgkofipifjfjhaaGreatDoor.Q

/-
  Layer 11's laws: digits; SortShadows.
-/
namespace Go.Proofs.YtgkofipifjfjhaaGreatDoor.Q
set_option linter.unusedSimpArgs false
set_option linter.unusedVariables false
open Go.RowKit

theorem ldigits_t {a : Nat} (ha : a < 65536) (w : World) : Calls Tryz.prog 33 #[.int .u16 (a : Int)] w fun e w' => e = .returned (str (Lib.decDigits a)) ∧ Ext w w' := by
 have hcv : (convert 63 2 (.int .u16 (a : Int))).run Tryz.prog w = .ok (.int .i64 (a : Int)) w := by
  have hwr : IntKind.i64.wrap (a : Int) = (a : Int) := by rw [IntKind.wrap_i64]; omega
  go_simp
 go_enter Tryz.func33, Tryz.ntmps33
 go_wp2_with fail
 refine (rOf_z (n := (a : Int)) (by omega) (by omega) w).mono ?_
 rintro e w1 ⟨v, rfl, hz, hb⟩
 have hp := rPrint_w (Z := (a : Int)) hz.worth (by decide)
 rw [show Go.Proofs.YtgkofipifjfjhaaGreatDoor.M.print (a : Int) = Lib.decDigits a by unfold Go.Proofs.YtgkofipifjfjhaaGreatDoor.M.print; rw [if_neg (by omega)]; rfl] at hp
 have HP := hid hp
 have E := hid hb
 clear hz hb hp hcv
 go_wp2_with fail
 refine HP.out.mono ?_
 rintro e w2 ⟨rfl, hb⟩
 replace E := hid (E.out.trans hb)
 clear hb HP
 obtain ⟨d, hd⟩ : ∃ d, Lib.decDigits a = d := ⟨_, rfl⟩
 rw [hd]
 have HD := hid hd
 clear hd
 go_wp2_with fail
 go_ret
 exact ⟨by rw [HD.out]; rfl, E.out⟩
theorem box_ne {w : World} {g k : Nat} {cs cs' : Array Value} {T T' : TypeId} (h : Box w g cs T) (h' : Box w k cs' T') (hne : cs.size ≠ cs'.size) : g ≠ k := by
 intro e
 subst e
 have := h.symm.trans h'
 injection this with this
 injection this with e1 e2 e3
 exact hne (by rw [e1])
theorem want_made {w : World} {a b : Int} {sp sq : Bool} {Np Nq Ap Aq : Option Addr} {nnp ncp nnq ncq np cp nq cq : Nat} (hp : IsTm w (M.knumT a) (kv 1 sp Np nnp ncp [] 2 Ap np cp)) (hq : IsTm w (M.knumT b) (kv 1 sq Nq nnq ncq [] 2 Aq nq cq)) :
 IsTm (((((w.alloc (.cells #[.int .i64 1, .bool sp, .slice Np nnp ncp, str [], .int .i64 2, .slice Ap np cp] 33)).alloc (.cells #[.int .i64 1, .bool sq, .slice Nq nnq ncq, str [], .int .i64 2, .slice Aq nq cq] 33)).alloc (.cells #[.int .i64 1, .bool sq, .slice Nq nnq ncq, str [], .int .i64 2, .slice Aq nq cq, .int .i64 1, .bool sp, .slice Np nnp ncp, str [], .int .i64 2, .slice Ap np cp] 33)).alloc (.cells #[.int .i64 13, .bool false, .slice none 0 0, str [], .int .i64 2, .slice (some ⟨w.heap.size + 1 + 1, 0, none⟩) 2 2, .int .i64 1, .bool sp, .slice Np nnp ncp, str [], .int .i64 2, .slice Ap np cp] 33)).alloc (.cells #[.int .i64 14, .bool false, .slice none 0 0, str [], .int .i64 2, .slice (some ⟨w.heap.size + 1 + 1 + 1, 0, none⟩) 2 2] 33)) (M.shadTm a b) (kv 14 false none 0 0 [] 2 (some ⟨w.heap.size + 1 + 1 + 1, 0, none⟩) 2 2) ∧ Box (((((w.alloc (.cells #[.int .i64 1, .bool sp, .slice Np nnp ncp, str [], .int .i64 2, .slice Ap np cp] 33)).alloc (.cells #[.int .i64 1, .bool sq, .slice Nq nnq ncq, str [], .int .i64 2, .slice Aq nq cq] 33)).alloc (.cells #[.int .i64 1, .bool sq, .slice Nq nnq ncq, str [], .int .i64 2, .slice Aq nq cq, .int .i64 1, .bool sp, .slice Np nnp ncp, str [], .int .i64 2, .slice Ap np cp] 33)).alloc (.cells #[.int .i64 13, .bool false, .slice none 0 0, str [], .int .i64 2, .slice (some ⟨w.heap.size + 1 + 1, 0, none⟩) 2 2, .int .i64 1, .bool sp, .slice Np nnp ncp, str [], .int .i64 2, .slice Ap np cp] 33)).alloc (.cells #[.int .i64 14, .bool false, .slice none 0 0, str [], .int .i64 2, .slice (some ⟨w.heap.size + 1 + 1 + 1, 0, none⟩) 2 2] 33)) (w.heap.size + 1 + 1 + 1 + 1) #[.int .i64 14, .bool false, .slice none 0 0, str [], .int .i64 2, .slice (some ⟨w.heap.size + 1 + 1 + 1, 0, none⟩) 2 2] 33 ∧ Ext w (((((w.alloc (.cells #[.int .i64 1, .bool sp, .slice Np nnp ncp, str [], .int .i64 2, .slice Ap np cp] 33)).alloc (.cells #[.int .i64 1, .bool sq, .slice Nq nnq ncq, str [], .int .i64 2, .slice Aq nq cq] 33)).alloc (.cells #[.int .i64 1, .bool sq, .slice Nq nnq ncq, str [], .int .i64 2, .slice Aq nq cq, .int .i64 1, .bool sp, .slice Np nnp ncp, str [], .int .i64 2, .slice Ap np cp] 33)).alloc (.cells #[.int .i64 13, .bool false, .slice none 0 0, str [], .int .i64 2, .slice (some ⟨w.heap.size + 1 + 1, 0, none⟩) 2 2, .int .i64 1, .bool sp, .slice Np nnp ncp, str [], .int .i64 2, .slice Ap np cp] 33)).alloc (.cells #[.int .i64 14, .bool false, .slice none 0 0, str [], .int .i64 2, .slice (some ⟨w.heap.size + 1 + 1 + 1, 0, none⟩) 2 2] 33)) := by
 have hE : Ext w (((((w.alloc (.cells #[.int .i64 1, .bool sp, .slice Np nnp ncp, str [], .int .i64 2, .slice Ap np cp] 33)).alloc (.cells #[.int .i64 1, .bool sq, .slice Nq nnq ncq, str [], .int .i64 2, .slice Aq nq cq] 33)).alloc (.cells #[.int .i64 1, .bool sq, .slice Nq nnq ncq, str [], .int .i64 2, .slice Aq nq cq, .int .i64 1, .bool sp, .slice Np nnp ncp, str [], .int .i64 2, .slice Ap np cp] 33)).alloc (.cells #[.int .i64 13, .bool false, .slice none 0 0, str [], .int .i64 2, .slice (some ⟨w.heap.size + 1 + 1, 0, none⟩) 2 2, .int .i64 1, .bool sp, .slice Np nnp ncp, str [], .int .i64 2, .slice Ap np cp] 33)).alloc (.cells #[.int .i64 14, .bool false, .slice none 0 0, str [], .int .i64 2, .slice (some ⟨w.heap.size + 1 + 1 + 1, 0, none⟩) 2 2] 33)) := ((((Ext.alloc w _).alloc' _).alloc' _).alloc' _).alloc' _
 have hB1 : Box (((((w.alloc (.cells #[.int .i64 1, .bool sp, .slice Np nnp ncp, str [], .int .i64 2, .slice Ap np cp] 33)).alloc (.cells #[.int .i64 1, .bool sq, .slice Nq nnq ncq, str [], .int .i64 2, .slice Aq nq cq] 33)).alloc (.cells #[.int .i64 1, .bool sq, .slice Nq nnq ncq, str [], .int .i64 2, .slice Aq nq cq, .int .i64 1, .bool sp, .slice Np nnp ncp, str [], .int .i64 2, .slice Ap np cp] 33)).alloc (.cells #[.int .i64 13, .bool false, .slice none 0 0, str [], .int .i64 2, .slice (some ⟨w.heap.size + 1 + 1, 0, none⟩) 2 2, .int .i64 1, .bool sp, .slice Np nnp ncp, str [], .int .i64 2, .slice Ap np cp] 33)).alloc (.cells #[.int .i64 14, .bool false, .slice none 0 0, str [], .int .i64 2, .slice (some ⟨w.heap.size + 1 + 1 + 1, 0, none⟩) 2 2] 33)) (w.heap.size + 1 + 1) #[.int .i64 1, .bool sq, .slice Nq nnq ncq, str [], .int .i64 2, .slice Aq nq cq, .int .i64 1, .bool sp, .slice Np nnp ncp, str [], .int .i64 2, .slice Ap np cp] 33 := ((Box.at_ (w := (w.alloc _).alloc _) _ _ (by simp)).alloc _).alloc _
 have hB2 : Box (((((w.alloc (.cells #[.int .i64 1, .bool sp, .slice Np nnp ncp, str [], .int .i64 2, .slice Ap np cp] 33)).alloc (.cells #[.int .i64 1, .bool sq, .slice Nq nnq ncq, str [], .int .i64 2, .slice Aq nq cq] 33)).alloc (.cells #[.int .i64 1, .bool sq, .slice Nq nnq ncq, str [], .int .i64 2, .slice Aq nq cq, .int .i64 1, .bool sp, .slice Np nnp ncp, str [], .int .i64 2, .slice Ap np cp] 33)).alloc (.cells #[.int .i64 13, .bool false, .slice none 0 0, str [], .int .i64 2, .slice (some ⟨w.heap.size + 1 + 1, 0, none⟩) 2 2, .int .i64 1, .bool sp, .slice Np nnp ncp, str [], .int .i64 2, .slice Ap np cp] 33)).alloc (.cells #[.int .i64 14, .bool false, .slice none 0 0, str [], .int .i64 2, .slice (some ⟨w.heap.size + 1 + 1 + 1, 0, none⟩) 2 2] 33)) (w.heap.size + 1 + 1 + 1) #[.int .i64 13, .bool false, .slice none 0 0, str [], .int .i64 2, .slice (some ⟨w.heap.size + 1 + 1, 0, none⟩) 2 2, .int .i64 1, .bool sp, .slice Np nnp ncp, str [], .int .i64 2, .slice Ap np cp] 33 := (Box.at_ (w := ((w.alloc _).alloc _).alloc _) _ _ (by simp)).alloc _
 have hB3 : Box (((((w.alloc (.cells #[.int .i64 1, .bool sp, .slice Np nnp ncp, str [], .int .i64 2, .slice Ap np cp] 33)).alloc (.cells #[.int .i64 1, .bool sq, .slice Nq nnq ncq, str [], .int .i64 2, .slice Aq nq cq] 33)).alloc (.cells #[.int .i64 1, .bool sq, .slice Nq nnq ncq, str [], .int .i64 2, .slice Aq nq cq, .int .i64 1, .bool sp, .slice Np nnp ncp, str [], .int .i64 2, .slice Ap np cp] 33)).alloc (.cells #[.int .i64 13, .bool false, .slice none 0 0, str [], .int .i64 2, .slice (some ⟨w.heap.size + 1 + 1, 0, none⟩) 2 2, .int .i64 1, .bool sp, .slice Np nnp ncp, str [], .int .i64 2, .slice Ap np cp] 33)).alloc (.cells #[.int .i64 14, .bool false, .slice none 0 0, str [], .int .i64 2, .slice (some ⟨w.heap.size + 1 + 1 + 1, 0, none⟩) 2 2] 33)) (w.heap.size + 1 + 1 + 1 + 1) #[.int .i64 14, .bool false, .slice none 0 0, str [], .int .i64 2, .slice (some ⟨w.heap.size + 1 + 1 + 1, 0, none⟩) 2 2] 33 := Box.at_ (w := (((w.alloc _).alloc _).alloc _).alloc _) _ _ (by simp)
 have hP := hp.up hE
 have hQ := hq.up hE
 have h1 := tms_two hQ hP hB1
 have hA : IsTm (((((w.alloc (.cells #[.int .i64 1, .bool sp, .slice Np nnp ncp, str [], .int .i64 2, .slice Ap np cp] 33)).alloc (.cells #[.int .i64 1, .bool sq, .slice Nq nnq ncq, str [], .int .i64 2, .slice Aq nq cq] 33)).alloc (.cells #[.int .i64 1, .bool sq, .slice Nq nnq ncq, str [], .int .i64 2, .slice Aq nq cq, .int .i64 1, .bool sp, .slice Np nnp ncp, str [], .int .i64 2, .slice Ap np cp] 33)).alloc (.cells #[.int .i64 13, .bool false, .slice none 0 0, str [], .int .i64 2, .slice (some ⟨w.heap.size + 1 + 1, 0, none⟩) 2 2, .int .i64 1, .bool sp, .slice Np nnp ncp, str [], .int .i64 2, .slice Ap np cp] 33)).alloc (.cells #[.int .i64 14, .bool false, .slice none 0 0, str [], .int .i64 2, .slice (some ⟨w.heap.size + 1 + 1 + 1, 0, none⟩) 2 2] 33)) (.mk 13 false [] [] 2 [M.knumT b, M.knumT a]) (kv 13 false none 0 0 [] 2 (some ⟨w.heap.size + 1 + 1, 0, none⟩) 2 2) := ⟨none, 0, 0, _, 2, rfl, LNum.nil _, h1⟩
 have h2 := tms_two hA hP hB2
 exact ⟨⟨none, 0, 0, _, 2, rfl, LNum.nil _, h2⟩, hB3, hE⟩
set_option maxHeartbeats 40000000 in
set_option maxRecDepth 100000 in
theorem shadows_t {a b : Nat} (ha : a < 65536) (hb : b < 65536) {w : World} (ht : TabT w) : Calls Tryz.prog 6 #[.int .u16 (a : Int), .int .u16 (b : Int)] w (GivesB w true) := by
 have HKN := hid (known_t ht)
 have HTB := hid (fun w' (e : Ext w w') => ht.up e)
 have HDA := hid (fun w' => ldigits_t ha w')
 have HDB := hid (fun w' => ldigits_t hb w')
 have HOA := hid (M.okNum_dec ha)
 have HOB := hid (M.okNum_dec hb)
 obtain ⟨xs, hxs⟩ : ∃ d, Lib.decDigits a = d := ⟨_, rfl⟩
 obtain ⟨ys, hys⟩ : ∃ d, Lib.decDigits b = d := ⟨_, rfl⟩
 rw [hxs] at HDA HOA
 rw [hys] at HDB HOB
 clear hxs hys ht
 go_enter Tryz.func6, Tryz.ntmps6
 go_wp2_with fail
 refine HKN.out.mono ?_
 rintro e w1 ⟨rfl, hx⟩
 have E := hid hx
 clear hx HKN
 go_wp2_with fail
 refine (HDA.out _).mono ?_
 rintro e wb ⟨rfl, hx⟩
 replace E := hid (E.out.trans hx)
 clear hx
 go_wp2_with fail
 refine (lnum_t xs _).mono ?_
 rintro e wb ⟨rfl, hx⟩
 replace E := hid (E.out.trans hx)
 clear hx
 go_wp2_with fail
 refine (HDB.out _).mono ?_
 rintro e wb ⟨rfl, hx⟩
 replace E := hid (E.out.trans hx)
 clear hx
 go_wp2_with fail
 refine (lnum_t ys _).mono ?_
 rintro e w5 ⟨rfl, hx⟩
 replace E := hid (E.out.trans hx)
 clear hx
 have f0 : ((w5.alloc (.cells zero4 26)).alloc (.cells zero4 26)).heap.size = w5.heap.size + 2 := by simp
 go_wp2_with fail
 refine swp_at (fun W => Box W w5.heap.size #[.bool false, .int .i64 3, str xs, .slice none 0 0] 26 ∧ Box W (w5.heap.size + 1) #[.bool false, .int .i64 3, str ys, .slice none 0 0] 26 ∧ Ext w W) ⟨(Box.new w5 _ _).alloc _, Box.at_ (w := w5.alloc _) _ _ (by simp), (E.out.alloc' _).alloc' _⟩ ?_
 intro W ⟨hb0, hb1, he⟩
 replace E := hid he
 have HBX := hid hb0
 have HBY := hid hb1
 have HLX := hid hb0.lt
 have HLY := hid hb1.lt
 obtain ⟨kx, hkx⟩ : ∃ k, w5.heap.size = k := ⟨_, rfl⟩
 rw [hkx] at HBX HBY HLX HLY ⊢
 clear hb0 hb1 he f0 hkx
 refine wp_region_L [(2, 0), (0, 2), (1, 2), (3, 2), (4, 2), (5, 2), (6, 2), (7, 2), (8, 2), (9, 2), (10, 2), (11, 2), (12, 2), (13, 2), (14, 2), (15, 2), (16, 2), (17, 2), (18, 3), (19, 4)] 26 zero4 fun wd hb => ?_
 replace E := hid (E.out.trans hb)
 have HWD := hid hb.size
 have HED := hid E.out.size
 replace HBX := hid (HBX.out.up hb)
 replace HBY := hid (HBY.out.up hb)
 clear hb
 refine WE.q 27 (tv false (3, ys) none 0 0) rfl (fun w' hk => by obtain ⟨⟨x0, x1, x2, x3⟩, -, -⟩ := box4k (HBY.out.up hk); go_simp) ?_
 simp only [Act.put, pA, pB, pC]
 refine WE.callR (d := some 25) rfl rfl (by rfl) (fun w => by go_simp) fun wa hea => ((lsym_t [108, 101, 116] wa).mono ?_)
 rintro e wb ⟨rfl, hb⟩
 refine ⟨_, rfl, hb, ?_⟩
 replace hb := hea.trans hb
 replace E := hid (E.out.trans hb)
 replace HBX := hid (HBX.out.up hb)
 replace HBY := hid (HBY.out.up hb)
 clear hea hb
 simp only [Act.put, pA, pB, pC]
 refine WE.callR (d := some 26) rfl rfl (by rfl) (fun w => by go_simp) fun wa hea => ((lsym_t [118] wa).mono ?_)
 rintro e wb ⟨rfl, hb⟩
 refine ⟨_, rfl, hb, ?_⟩
 replace hb := hea.trans hb
 replace E := hid (E.out.trans hb)
 replace HBX := hid (HBX.out.up hb)
 replace HBY := hid (HBY.out.up hb)
 clear hea hb
 simp only [Act.put, pA, pB, pC]
 refine WE.newR (d := some 28) (cs := #[.bool false, .int .i64 4, str [118], .slice none 0 0, .bool false, .int .i64 3, str ys, .slice none 0 0]) (t := 26) (v := fun g => .slice (some ⟨g, 0, none⟩) 2 2) rfl rfl (by rfl) (fun w => by go_simp) fun g28 wb hb hbx _ => ?_
 replace E := hid (E.out.trans hb)
 replace HBX := hid (HBX.out.up hb)
 replace HBY := hid (HBY.out.up hb)
 have HKg28 := hid (Kids.box (ks := [M.SY [118], M.NU ys]) hbx (Reps.leaf (Reps.leaf (Reps.nil _))) rfl (by simp))
 have HRg28 := hid hbx
 clear hb hbx
 simp only [Act.put, pA, pB, pC]
 refine WE.callR (d := some 29) rfl rfl (by rfl) (fun w => by go_simp) fun wa hea => ((llist_t (some ⟨g28, 0, none⟩) 2 2 wa).mono ?_)
 rintro e wb ⟨rfl, hb⟩
 refine ⟨_, rfl, hb, ?_⟩
 replace hb := hea.trans hb
 replace E := hid (E.out.trans hb)
 replace HBX := hid (HBX.out.up hb)
 replace HBY := hid (HBY.out.up hb)
 replace HRg28 := hid (HRg28.out.up hb)
 replace HKg28 := hid (HKg28.out.up hb)
 clear hea hb
 simp only [Act.put, pA, pB, pC]
 refine WE.callR (d := some 30) rfl rfl (by rfl) (fun w => by go_simp) fun wa hea => ((lsym_t [119] wa).mono ?_)
 rintro e wb ⟨rfl, hb⟩
 refine ⟨_, rfl, hb, ?_⟩
 replace hb := hea.trans hb
 replace E := hid (E.out.trans hb)
 replace HBX := hid (HBX.out.up hb)
 replace HBY := hid (HBY.out.up hb)
 replace HRg28 := hid (HRg28.out.up hb)
 replace HKg28 := hid (HKg28.out.up hb)
 clear hea hb
 simp only [Act.put, pA, pB, pC]
 refine WE.callR (d := some 31) rfl rfl (by rfl) (fun w => by go_simp) fun wa hea => ((lsym_t [118] wa).mono ?_)
 rintro e wb ⟨rfl, hb⟩
 refine ⟨_, rfl, hb, ?_⟩
 replace hb := hea.trans hb
 replace E := hid (E.out.trans hb)
 replace HBX := hid (HBX.out.up hb)
 replace HBY := hid (HBY.out.up hb)
 replace HRg28 := hid (HRg28.out.up hb)
 replace HKg28 := hid (HKg28.out.up hb)
 clear hea hb
 simp only [Act.put, pA, pB, pC]
 refine WE.newR (d := some 32) (cs := #[.bool false, .int .i64 4, str [119], .slice none 0 0, .bool false, .int .i64 4, str [118], .slice none 0 0]) (t := 26) (v := fun g => .slice (some ⟨g, 0, none⟩) 2 2) rfl rfl (by rfl) (fun w => by go_simp) fun g32 wb hb hbx _ => ?_
 replace E := hid (E.out.trans hb)
 replace HBX := hid (HBX.out.up hb)
 replace HBY := hid (HBY.out.up hb)
 replace HRg28 := hid (HRg28.out.up hb)
 replace HKg28 := hid (HKg28.out.up hb)
 have HKg32 := hid (Kids.box (ks := [M.SY [119], M.SY [118]]) hbx (Reps.leaf (Reps.leaf (Reps.nil _))) rfl (by simp))
 have HRg32 := hid hbx
 clear hb hbx
 simp only [Act.put, pA, pB, pC]
 refine WE.callR (d := some 33) rfl rfl (by rfl) (fun w => by go_simp) fun wa hea => ((llist_t (some ⟨g32, 0, none⟩) 2 2 wa).mono ?_)
 rintro e wb ⟨rfl, hb⟩
 refine ⟨_, rfl, hb, ?_⟩
 replace hb := hea.trans hb
 replace E := hid (E.out.trans hb)
 replace HBX := hid (HBX.out.up hb)
 replace HBY := hid (HBY.out.up hb)
 replace HRg28 := hid (HRg28.out.up hb)
 replace HKg28 := hid (HKg28.out.up hb)
 replace HRg32 := hid (HRg32.out.up hb)
 replace HKg32 := hid (HKg32.out.up hb)
 clear hea hb
 simp only [Act.put, pA, pB, pC]
 refine WE.newR (d := some 34) (cs := #[.bool true, .int .i64 0, .string ⟨#[]⟩, .slice (some ⟨g28, 0, none⟩) 2 2, .bool true, .int .i64 0, .string ⟨#[]⟩, .slice (some ⟨g32, 0, none⟩) 2 2]) (t := 26) (v := fun g => .slice (some ⟨g, 0, none⟩) 2 2) rfl rfl (by rfl) (fun w => by go_simp) fun g34 wb hb hbx _ => ?_
 replace E := hid (E.out.trans hb)
 replace HBX := hid (HBX.out.up hb)
 replace HBY := hid (HBY.out.up hb)
 replace HRg28 := hid (HRg28.out.up hb)
 replace HKg28 := hid (HKg28.out.up hb)
 replace HRg32 := hid (HRg32.out.up hb)
 replace HKg32 := hid (HKg32.out.up hb)
 have HKg34 := hid (Kids.box (ks := [M.LI [M.SY [118], M.NU ys], M.LI [M.SY [119], M.SY [118]]]) hbx (Reps.list HKg28.out (Reps.list HKg32.out (Reps.nil _))) rfl (by simp))
 have HRg34 := hid hbx
 clear hb hbx
 simp only [Act.put, pA, pB, pC]
 refine WE.callR (d := some 35) rfl rfl (by rfl) (fun w => by go_simp) fun wa hea => ((llist_t (some ⟨g34, 0, none⟩) 2 2 wa).mono ?_)
 rintro e wb ⟨rfl, hb⟩
 refine ⟨_, rfl, hb, ?_⟩
 replace hb := hea.trans hb
 replace E := hid (E.out.trans hb)
 replace HBX := hid (HBX.out.up hb)
 replace HBY := hid (HBY.out.up hb)
 replace HRg28 := hid (HRg28.out.up hb)
 replace HKg28 := hid (HKg28.out.up hb)
 replace HRg32 := hid (HRg32.out.up hb)
 replace HKg32 := hid (HKg32.out.up hb)
 replace HRg34 := hid (HRg34.out.up hb)
 replace HKg34 := hid (HKg34.out.up hb)
 clear hea hb
 simp only [Act.put, pA, pB, pC]
 refine WE.callR (d := some 36) rfl rfl (by rfl) (fun w => by go_simp) fun wa hea => ((lsym_t [43] wa).mono ?_)
 rintro e wb ⟨rfl, hb⟩
 refine ⟨_, rfl, hb, ?_⟩
 replace hb := hea.trans hb
 replace E := hid (E.out.trans hb)
 replace HBX := hid (HBX.out.up hb)
 replace HBY := hid (HBY.out.up hb)
 replace HRg28 := hid (HRg28.out.up hb)
 replace HKg28 := hid (HKg28.out.up hb)
 replace HRg32 := hid (HRg32.out.up hb)
 replace HKg32 := hid (HKg32.out.up hb)
 replace HRg34 := hid (HRg34.out.up hb)
 replace HKg34 := hid (HKg34.out.up hb)
 clear hea hb
 simp only [Act.put, pA, pB, pC]
 refine WE.callR (d := some 37) rfl rfl (by rfl) (fun w => by go_simp) fun wa hea => ((lsym_t [118] wa).mono ?_)
 rintro e wb ⟨rfl, hb⟩
 refine ⟨_, rfl, hb, ?_⟩
 replace hb := hea.trans hb
 replace E := hid (E.out.trans hb)
 replace HBX := hid (HBX.out.up hb)
 replace HBY := hid (HBY.out.up hb)
 replace HRg28 := hid (HRg28.out.up hb)
 replace HKg28 := hid (HKg28.out.up hb)
 replace HRg32 := hid (HRg32.out.up hb)
 replace HKg32 := hid (HKg32.out.up hb)
 replace HRg34 := hid (HRg34.out.up hb)
 replace HKg34 := hid (HKg34.out.up hb)
 clear hea hb
 simp only [Act.put, pA, pB, pC]
 refine WE.callR (d := some 38) rfl rfl (by rfl) (fun w => by go_simp) fun wa hea => ((lsym_t [119] wa).mono ?_)
 rintro e wb ⟨rfl, hb⟩
 refine ⟨_, rfl, hb, ?_⟩
 replace hb := hea.trans hb
 replace E := hid (E.out.trans hb)
 replace HBX := hid (HBX.out.up hb)
 replace HBY := hid (HBY.out.up hb)
 replace HRg28 := hid (HRg28.out.up hb)
 replace HKg28 := hid (HKg28.out.up hb)
 replace HRg32 := hid (HRg32.out.up hb)
 replace HKg32 := hid (HKg32.out.up hb)
 replace HRg34 := hid (HRg34.out.up hb)
 replace HKg34 := hid (HKg34.out.up hb)
 clear hea hb
 simp only [Act.put, pA, pB, pC]
 refine WE.newR (d := some 39) (cs := #[.bool false, .int .i64 4, str [43], .slice none 0 0, .bool false, .int .i64 4, str [118], .slice none 0 0, .bool false, .int .i64 4, str [119], .slice none 0 0]) (t := 26) (v := fun g => .slice (some ⟨g, 0, none⟩) 3 3) rfl rfl (by rfl) (fun w => by go_simp) fun g39 wb hb hbx _ => ?_
 replace E := hid (E.out.trans hb)
 replace HBX := hid (HBX.out.up hb)
 replace HBY := hid (HBY.out.up hb)
 replace HRg28 := hid (HRg28.out.up hb)
 replace HKg28 := hid (HKg28.out.up hb)
 replace HRg32 := hid (HRg32.out.up hb)
 replace HKg32 := hid (HKg32.out.up hb)
 replace HRg34 := hid (HRg34.out.up hb)
 replace HKg34 := hid (HKg34.out.up hb)
 have HKg39 := hid (Kids.box (ks := [M.SY [43], M.SY [118], M.SY [119]]) hbx (Reps.leaf (Reps.leaf (Reps.leaf (Reps.nil _)))) rfl (by simp))
 have HRg39 := hid hbx
 clear hb hbx
 simp only [Act.put, pA, pB, pC]
 refine WE.callR (d := some 40) rfl rfl (by rfl) (fun w => by go_simp) fun wa hea => ((llist_t (some ⟨g39, 0, none⟩) 3 3 wa).mono ?_)
 rintro e wb ⟨rfl, hb⟩
 refine ⟨_, rfl, hb, ?_⟩
 replace hb := hea.trans hb
 replace E := hid (E.out.trans hb)
 replace HBX := hid (HBX.out.up hb)
 replace HBY := hid (HBY.out.up hb)
 replace HRg28 := hid (HRg28.out.up hb)
 replace HKg28 := hid (HKg28.out.up hb)
 replace HRg32 := hid (HRg32.out.up hb)
 replace HKg32 := hid (HKg32.out.up hb)
 replace HRg34 := hid (HRg34.out.up hb)
 replace HKg34 := hid (HKg34.out.up hb)
 replace HRg39 := hid (HRg39.out.up hb)
 replace HKg39 := hid (HKg39.out.up hb)
 clear hea hb
 simp only [Act.put, pA, pB, pC]
 refine WE.newR (d := some 41) (cs := #[.bool false, .int .i64 4, str [108, 101, 116], .slice none 0 0, .bool true, .int .i64 0, .string ⟨#[]⟩, .slice (some ⟨g34, 0, none⟩) 2 2, .bool true, .int .i64 0, .string ⟨#[]⟩, .slice (some ⟨g39, 0, none⟩) 3 3]) (t := 26) (v := fun g => .slice (some ⟨g, 0, none⟩) 3 3) rfl rfl (by rfl) (fun w => by go_simp) fun g41 wb hb hbx _ => ?_
 replace E := hid (E.out.trans hb)
 replace HBX := hid (HBX.out.up hb)
 replace HBY := hid (HBY.out.up hb)
 replace HRg28 := hid (HRg28.out.up hb)
 replace HKg28 := hid (HKg28.out.up hb)
 replace HRg32 := hid (HRg32.out.up hb)
 replace HKg32 := hid (HKg32.out.up hb)
 replace HRg34 := hid (HRg34.out.up hb)
 replace HKg34 := hid (HKg34.out.up hb)
 replace HRg39 := hid (HRg39.out.up hb)
 replace HKg39 := hid (HKg39.out.up hb)
 have HKg41 := hid (Kids.box (ks := [M.SY [108, 101, 116], M.LI [M.LI [M.SY [118], M.NU ys], M.LI [M.SY [119], M.SY [118]]], M.LI [M.SY [43], M.SY [118], M.SY [119]]]) hbx (Reps.leaf (Reps.list HKg34.out (Reps.list HKg39.out (Reps.nil _)))) rfl (by simp))
 have HRg41 := hid hbx
 clear hb hbx
 simp only [Act.put, pA, pB, pC]
 refine WE.callR (d := some 42) rfl rfl (by rfl) (fun w => by go_simp) fun wa hea => ((llist_t (some ⟨g41, 0, none⟩) 3 3 wa).mono ?_)
 rintro e wb ⟨rfl, hb⟩
 refine ⟨_, rfl, hb, ?_⟩
 replace hb := hea.trans hb
 replace E := hid (E.out.trans hb)
 replace HBX := hid (HBX.out.up hb)
 replace HBY := hid (HBY.out.up hb)
 replace HRg28 := hid (HRg28.out.up hb)
 replace HKg28 := hid (HKg28.out.up hb)
 replace HRg32 := hid (HRg32.out.up hb)
 replace HKg32 := hid (HKg32.out.up hb)
 replace HRg34 := hid (HRg34.out.up hb)
 replace HKg34 := hid (HKg34.out.up hb)
 replace HRg39 := hid (HRg39.out.up hb)
 replace HKg39 := hid (HKg39.out.up hb)
 replace HRg41 := hid (HRg41.out.up hb)
 replace HKg41 := hid (HKg41.out.up hb)
 clear hea hb
 simp only [Act.put, pA, pB, pC]
 clear HKg28
 clear HKg32
 clear HKg34
 clear HKg39
 clear HKg41
 refine WE.var (d := some 7) rfl fun gi w6 hb hbx hge hng => ?_
 replace E := hid (E.out.trans hb)
 replace HBX := hid (HBX.out.up hb)
 replace HBY := hid (HBY.out.up hb)
 replace HRg28 := hid (HRg28.out.up hb)
 replace HRg32 := hid (HRg32.out.up hb)
 replace HRg34 := hid (HRg34.out.up hb)
 replace HRg39 := hid (HRg39.out.up hb)
 replace HRg41 := hid (HRg41.out.up hb)
 obtain ⟨⟨z0, z1, z2, z3⟩, ⟨a0, a1, a2, a3⟩, hk6⟩ := boxF4 (show Box w6 gi zero4 26 from hbx)
 simp only [Act.put, pA, pB, pC]
 refine WE.store (w' := put4 w6 gi (.bool true) (.int .i64 0) (.string ⟨#[]⟩) (.slice (some ⟨g41, 0, none⟩) 3 3)) rfl rfl (by rfl) (by go_simp) (by simp [put4]) ?_
 refine WE.done ?_
 have HG := hid (show wd.heap.size ≤ gi from hge)
 have HZ := hid (show Box w6 gi zero4 26 from hbx)
 obtain ⟨w7, hW⟩ : ∃ W, W = put4 w6 gi (.bool true) (.int .i64 0) (.string ⟨#[]⟩) (.slice (some ⟨g41, 0, none⟩) 3 3) := ⟨_, rfl⟩
 rw [← hW]
 replace E := hid (show Ext w w7 by rw [hW]; exact put4_ext E.out (Nat.le_trans HED.out HG.out))
 replace HBX := hid (show Box w7 kx #[.bool false, .int .i64 3, str xs, .slice none 0 0] 26 by rw [hW]; exact HBX.out.kept put4_kept (by have h := Nat.lt_of_lt_of_le HLX.out (Nat.le_trans HWD.out HG.out); simp; omega))
 replace HBY := hid (show Box w7 (kx + 1) #[.bool false, .int .i64 3, str ys, .slice none 0 0] 26 by rw [hW]; exact HBY.out.kept put4_kept (by have h := Nat.lt_of_lt_of_le HLY.out (Nat.le_trans HWD.out HG.out); simp; omega))
 have HBI := hid (show Box w7 gi #[.bool true, .int .i64 0, .string ⟨#[]⟩, .slice (some ⟨g41, 0, none⟩) 3 3] 26 by rw [hW]; exact (((HZ.out.setAt 0 _).setAt 1 _).setAt 2 _).setAt 3 _)
 replace HRg28 := hid (show Box w7 g28 #[.bool false, .int .i64 4, str [118], .slice none 0 0, .bool false, .int .i64 3, str ys, .slice none 0 0] 26 by rw [hW]; exact HRg28.out.kept put4_kept (by have h := box_ne HRg28.out HZ.out (by simp); simp; exact h))
 replace HRg32 := hid (show Box w7 g32 #[.bool false, .int .i64 4, str [119], .slice none 0 0, .bool false, .int .i64 4, str [118], .slice none 0 0] 26 by rw [hW]; exact HRg32.out.kept put4_kept (by have h := box_ne HRg32.out HZ.out (by simp); simp; exact h))
 replace HRg34 := hid (show Box w7 g34 #[.bool true, .int .i64 0, .string ⟨#[]⟩, .slice (some ⟨g28, 0, none⟩) 2 2, .bool true, .int .i64 0, .string ⟨#[]⟩, .slice (some ⟨g32, 0, none⟩) 2 2] 26 by rw [hW]; exact HRg34.out.kept put4_kept (by have h := box_ne HRg34.out HZ.out (by simp); simp; exact h))
 replace HRg39 := hid (show Box w7 g39 #[.bool false, .int .i64 4, str [43], .slice none 0 0, .bool false, .int .i64 4, str [118], .slice none 0 0, .bool false, .int .i64 4, str [119], .slice none 0 0] 26 by rw [hW]; exact HRg39.out.kept put4_kept (by have h := box_ne HRg39.out HZ.out (by simp); simp; exact h))
 replace HRg41 := hid (show Box w7 g41 #[.bool false, .int .i64 4, str [108, 101, 116], .slice none 0 0, .bool true, .int .i64 0, .string ⟨#[]⟩, .slice (some ⟨g34, 0, none⟩) 2 2, .bool true, .int .i64 0, .string ⟨#[]⟩, .slice (some ⟨g39, 0, none⟩) 3 3] 26 by rw [hW]; exact HRg41.out.kept put4_kept (by have h := box_ne HRg41.out HZ.out (by simp); simp; exact h))
 have HKg28 := hid (Kids.box (ks := [M.SY [118], M.NU ys]) HRg28.out (Reps.leaf (Reps.leaf (Reps.nil _))) rfl (by simp))
 have HKg32 := hid (Kids.box (ks := [M.SY [119], M.SY [118]]) HRg32.out (Reps.leaf (Reps.leaf (Reps.nil _))) rfl (by simp))
 have HKg34 := hid (Kids.box (ks := [M.LI [M.SY [118], M.NU ys], M.LI [M.SY [119], M.SY [118]]]) HRg34.out (Reps.list HKg28.out (Reps.list HKg32.out (Reps.nil _))) rfl (by simp))
 have HKg39 := hid (Kids.box (ks := [M.SY [43], M.SY [118], M.SY [119]]) HRg39.out (Reps.leaf (Reps.leaf (Reps.leaf (Reps.nil _)))) rfl (by simp))
 have HKg41 := hid (Kids.box (ks := [M.SY [108, 101, 116], M.LI [M.LI [M.SY [118], M.NU ys], M.LI [M.SY [119], M.SY [118]]], M.LI [M.SY [43], M.SY [118], M.SY [119]]]) HRg41.out (Reps.leaf (Reps.list HKg34.out (Reps.list HKg39.out (Reps.nil _)))) rfl (by simp))
 clear HRg28 HRg32 HRg34 HRg39 HRg41 HKg28 HKg32 HKg34 HKg39
 have HLI := hid HBI.out.lt
 have HLX := hid HBX.out.lt
 have HLY := hid HBY.out.lt
 clear hW hb hbx hge hng a0 a1 a2 a3 hk6 z0 z1 z2 z3 HZ HWD HED HG
 go_wp2_with fail
 refine wp_region_L [(2, 0), (8, 0), (0, 2), (1, 2), (3, 2), (4, 2), (5, 2), (6, 2), (7, 2), (9, 2), (10, 2), (11, 2), (12, 2), (13, 2), (14, 2), (15, 0), (16, 0), (17, 5), (18, 3), (19, 4), (20, 5)] 33 zero6 fun wd hb => ?_
 replace E := hid (E.out.trans hb)
 have HWD := hid hb.size
 have HED := hid E.out.size
 replace HBX := hid (HBX.out.up hb)
 replace HBY := hid (HBY.out.up hb)
 replace HBI := hid (HBI.out.up hb)
 replace HKg41 := hid (HKg41.out.up hb)
 clear hb
 refine WE.q 46 (tv false (3, xs) none 0 0) rfl (fun w' hk => by obtain ⟨⟨x0, x1, x2, x3⟩, -, -⟩ := box4k (HBX.out.up hk); go_simp) ?_
 simp only [Act.put, pA, pB, pC]
 refine WE.q 52 (tv true (0, []) (some ⟨g41, 0, none⟩) 3 3) rfl (fun w' hk => by obtain ⟨⟨x0, x1, x2, x3⟩, -, -⟩ := box4k (HBI.out.up hk); go_simp) ?_
 simp only [Act.put, pA, pB, pC]
 refine WE.callR (d := some 44) rfl rfl (by rfl) (fun w => by go_simp) fun wa hea => ((lsym_t [108, 101, 116] wa).mono ?_)
 rintro e wb ⟨rfl, hb⟩
 refine ⟨_, rfl, hb, ?_⟩
 replace hb := hea.trans hb
 replace E := hid (E.out.trans hb)
 replace HBX := hid (HBX.out.up hb)
 replace HBY := hid (HBY.out.up hb)
 replace HBI := hid (HBI.out.up hb)
 replace HKg41 := hid (HKg41.out.up hb)
 clear hea hb
 simp only [Act.put, pA, pB, pC]
 refine WE.callR (d := some 45) rfl rfl (by rfl) (fun w => by go_simp) fun wa hea => ((lsym_t [118] wa).mono ?_)
 rintro e wb ⟨rfl, hb⟩
 refine ⟨_, rfl, hb, ?_⟩
 replace hb := hea.trans hb
 replace E := hid (E.out.trans hb)
 replace HBX := hid (HBX.out.up hb)
 replace HBY := hid (HBY.out.up hb)
 replace HBI := hid (HBI.out.up hb)
 replace HKg41 := hid (HKg41.out.up hb)
 clear hea hb
 simp only [Act.put, pA, pB, pC]
 refine WE.newR (d := some 47) (cs := #[.bool false, .int .i64 4, str [118], .slice none 0 0, .bool false, .int .i64 3, str xs, .slice none 0 0]) (t := 26) (v := fun g => .slice (some ⟨g, 0, none⟩) 2 2) rfl rfl (by rfl) (fun w => by go_simp) fun g47 wb hb hbx _ => ?_
 replace E := hid (E.out.trans hb)
 replace HBX := hid (HBX.out.up hb)
 replace HBY := hid (HBY.out.up hb)
 replace HBI := hid (HBI.out.up hb)
 replace HKg41 := hid (HKg41.out.up hb)
 have HKg47 := hid (Kids.box (ks := [M.SY [118], M.NU xs]) hbx (Reps.leaf (Reps.leaf (Reps.nil _))) rfl (by simp))
 clear hb hbx
 simp only [Act.put, pA, pB, pC]
 refine WE.callR (d := some 48) rfl rfl (by rfl) (fun w => by go_simp) fun wa hea => ((llist_t (some ⟨g47, 0, none⟩) 2 2 wa).mono ?_)
 rintro e wb ⟨rfl, hb⟩
 refine ⟨_, rfl, hb, ?_⟩
 replace hb := hea.trans hb
 replace E := hid (E.out.trans hb)
 replace HBX := hid (HBX.out.up hb)
 replace HBY := hid (HBY.out.up hb)
 replace HBI := hid (HBI.out.up hb)
 replace HKg41 := hid (HKg41.out.up hb)
 replace HKg47 := hid (HKg47.out.up hb)
 clear hea hb
 simp only [Act.put, pA, pB, pC]
 refine WE.newR (d := some 49) (cs := #[.bool true, .int .i64 0, .string ⟨#[]⟩, .slice (some ⟨g47, 0, none⟩) 2 2]) (t := 26) (v := fun g => .slice (some ⟨g, 0, none⟩) 1 1) rfl rfl (by rfl) (fun w => by go_simp) fun g49 wb hb hbx _ => ?_
 replace E := hid (E.out.trans hb)
 replace HBX := hid (HBX.out.up hb)
 replace HBY := hid (HBY.out.up hb)
 replace HBI := hid (HBI.out.up hb)
 replace HKg41 := hid (HKg41.out.up hb)
 replace HKg47 := hid (HKg47.out.up hb)
 have HKg49 := hid (Kids.box (ks := [M.LI [M.SY [118], M.NU xs]]) hbx (Reps.list HKg47.out (Reps.nil _)) rfl (by simp))
 clear hb hbx
 simp only [Act.put, pA, pB, pC]
 clear HKg47
 refine WE.callR (d := some 50) rfl rfl (by rfl) (fun w => by go_simp) fun wa hea => ((llist_t (some ⟨g49, 0, none⟩) 1 1 wa).mono ?_)
 rintro e wb ⟨rfl, hb⟩
 refine ⟨_, rfl, hb, ?_⟩
 replace hb := hea.trans hb
 replace E := hid (E.out.trans hb)
 replace HBX := hid (HBX.out.up hb)
 replace HBY := hid (HBY.out.up hb)
 replace HBI := hid (HBI.out.up hb)
 replace HKg41 := hid (HKg41.out.up hb)
 replace HKg49 := hid (HKg49.out.up hb)
 clear hea hb
 simp only [Act.put, pA, pB, pC]
 refine WE.callR (d := some 51) rfl rfl (by rfl) (fun w => by go_simp) fun wa hea => ((lsym_t [45] wa).mono ?_)
 rintro e wb ⟨rfl, hb⟩
 refine ⟨_, rfl, hb, ?_⟩
 replace hb := hea.trans hb
 replace E := hid (E.out.trans hb)
 replace HBX := hid (HBX.out.up hb)
 replace HBY := hid (HBY.out.up hb)
 replace HBI := hid (HBI.out.up hb)
 replace HKg41 := hid (HKg41.out.up hb)
 replace HKg49 := hid (HKg49.out.up hb)
 clear hea hb
 simp only [Act.put, pA, pB, pC]
 refine WE.callR (d := some 53) rfl rfl (by rfl) (fun w => by go_simp) fun wa hea => ((lsym_t [118] wa).mono ?_)
 rintro e wb ⟨rfl, hb⟩
 refine ⟨_, rfl, hb, ?_⟩
 replace hb := hea.trans hb
 replace E := hid (E.out.trans hb)
 replace HBX := hid (HBX.out.up hb)
 replace HBY := hid (HBY.out.up hb)
 replace HBI := hid (HBI.out.up hb)
 replace HKg41 := hid (HKg41.out.up hb)
 replace HKg49 := hid (HKg49.out.up hb)
 clear hea hb
 simp only [Act.put, pA, pB, pC]
 refine WE.newR (d := some 54) (cs := #[.bool false, .int .i64 4, str [45], .slice none 0 0, .bool true, .int .i64 0, .string ⟨#[]⟩, .slice (some ⟨g41, 0, none⟩) 3 3, .bool false, .int .i64 4, str [118], .slice none 0 0]) (t := 26) (v := fun g => .slice (some ⟨g, 0, none⟩) 3 3) rfl rfl (by rfl) (fun w => by go_simp) fun g54 wb hb hbx _ => ?_
 replace E := hid (E.out.trans hb)
 replace HBX := hid (HBX.out.up hb)
 replace HBY := hid (HBY.out.up hb)
 replace HBI := hid (HBI.out.up hb)
 replace HKg41 := hid (HKg41.out.up hb)
 replace HKg49 := hid (HKg49.out.up hb)
 have HKg54 := hid (Kids.box (ks := [M.SY [45], M.LI [M.SY [108, 101, 116], M.LI [M.LI [M.SY [118], M.NU ys], M.LI [M.SY [119], M.SY [118]]], M.LI [M.SY [43], M.SY [118], M.SY [119]]], M.SY [118]]) hbx (Reps.leaf (Reps.list HKg41.out (Reps.leaf (Reps.nil _)))) rfl (by simp))
 clear hb hbx
 simp only [Act.put, pA, pB, pC]
 clear HKg41
 refine WE.callR (d := some 55) rfl rfl (by rfl) (fun w => by go_simp) fun wa hea => ((llist_t (some ⟨g54, 0, none⟩) 3 3 wa).mono ?_)
 rintro e wb ⟨rfl, hb⟩
 refine ⟨_, rfl, hb, ?_⟩
 replace hb := hea.trans hb
 replace E := hid (E.out.trans hb)
 replace HBX := hid (HBX.out.up hb)
 replace HBY := hid (HBY.out.up hb)
 replace HBI := hid (HBI.out.up hb)
 replace HKg49 := hid (HKg49.out.up hb)
 replace HKg54 := hid (HKg54.out.up hb)
 clear hea hb
 simp only [Act.put, pA, pB, pC]
 refine WE.newR (d := some 56) (cs := #[.bool false, .int .i64 4, str [108, 101, 116], .slice none 0 0, .bool true, .int .i64 0, .string ⟨#[]⟩, .slice (some ⟨g49, 0, none⟩) 1 1, .bool true, .int .i64 0, .string ⟨#[]⟩, .slice (some ⟨g54, 0, none⟩) 3 3]) (t := 26) (v := fun g => .slice (some ⟨g, 0, none⟩) 3 3) rfl rfl (by rfl) (fun w => by go_simp) fun g56 wb hb hbx _ => ?_
 replace E := hid (E.out.trans hb)
 replace HBX := hid (HBX.out.up hb)
 replace HBY := hid (HBY.out.up hb)
 replace HBI := hid (HBI.out.up hb)
 replace HKg49 := hid (HKg49.out.up hb)
 replace HKg54 := hid (HKg54.out.up hb)
 have HKg56 := hid (Kids.box (ks := [M.SY [108, 101, 116], M.LI [M.LI [M.SY [118], M.NU xs]], M.LI [M.SY [45], M.LI [M.SY [108, 101, 116], M.LI [M.LI [M.SY [118], M.NU ys], M.LI [M.SY [119], M.SY [118]]], M.LI [M.SY [43], M.SY [118], M.SY [119]]], M.SY [118]]]) hbx (Reps.leaf (Reps.list HKg49.out (Reps.list HKg54.out (Reps.nil _)))) rfl (by simp))
 clear hb hbx
 simp only [Act.put, pA, pB, pC]
 clear HKg49
 clear HKg54
 refine WE.callR (d := some 57) rfl rfl (by rfl) (fun w => by go_simp) fun wa hea => ((llist_t (some ⟨g56, 0, none⟩) 3 3 wa).mono ?_)
 rintro e wb ⟨rfl, hb⟩
 refine ⟨_, rfl, hb, ?_⟩
 replace hb := hea.trans hb
 replace E := hid (E.out.trans hb)
 replace HBX := hid (HBX.out.up hb)
 replace HBY := hid (HBY.out.up hb)
 replace HBI := hid (HBI.out.up hb)
 replace HKg56 := hid (HKg56.out.up hb)
 clear hea hb
 simp only [Act.put, pA, pB, pC]
 clear HBI
 refine WE.callR (d := some 58) rfl rfl (by rfl) (fun w => by go_simp) fun wa hea => ((term_said (M.shad_said HOA.out HOB.out) (M.shad_txt HOA.out HOB.out) (isT_list (HKg56.out.up hea)) (HTB.out _ (E.out.trans hea)).1).mono ?_)
 rintro e wb ⟨v, rfl, hT, hb⟩
 refine ⟨_, rfl, hb, ?_⟩
 replace hT := hT.sub (gp_sub _ _)
 replace hb := hea.trans hb
 replace E := hid (E.out.trans hb)
 clear HKg56
 replace HBX := hid (HBX.out.up hb)
 replace HBY := hid (HBY.out.up hb)
 obtain ⟨N1, nn1, nc1, A1, n1, c1, rfl, hn1, -, -, -, -, -⟩ := hT.shape
 replace hT : IsTm wb (M.shadTm a b) (kv 14 false N1 nn1 nc1 [] 2 A1 n1 c1) := hT
 obtain rfl : n1 = 2 := hn1
 have HT8 := hid hT
 clear hT hea hb
 dsimp only [M.shadTm, M.Tm.op, M.Tm.g, M.Tm.name, M.Tm.sort]
 simp only [Act.put, pA, pB, pC]
 refine WE.p 43 (.tuple #[kv 14 false N1 nn1 nc1 [] 2 A1 2 c1, .int .i64 0]) ?_
 simp only [Act.put, pA, pB, pC]
 refine WE.p 59 (kv 14 false N1 nn1 nc1 [] 2 A1 2 c1) ?_
 simp only [Act.put, pA, pB, pC]
 refine WE.y 60 (.int .i64 0) ?_
 simp only [Act.put, pA, pB, pC]
 refine WE.var (d := some 8) rfl fun g8 w6 hb hbx hge hng => ?_
 replace E := hid (E.out.trans hb)
 replace HBX := hid (HBX.out.up hb)
 replace HBY := hid (HBY.out.up hb)
 replace HT8 := hid (HT8.out.up hb)
 obtain ⟨⟨z0, z1, z2, z3, z4, z5⟩, ⟨a0, a1, a2, a3, a4, a5⟩, hk6⟩ := boxF6 (show Box w6 g8 zero6 33 from hbx)
 simp only [Act.put, pA, pB, pC]
 refine WE.store (w' := put6 w6 g8 (.int .i64 14) (.bool false) (.slice N1 nn1 nc1) (str []) (.int .i64 2) (.slice A1 2 c1)) rfl rfl (by rfl) (by go_simp) (by simp [put6]) ?_
 refine WE.y 9 (.int .i64 0) ?_
 refine WE.done ?_
 simp only [Act.put, pA, pB, pC]
 have HG := hid (show wd.heap.size ≤ g8 from hge)
 have HZ := hid (show Box w6 g8 zero6 33 from hbx)
 obtain ⟨w7, hW⟩ : ∃ W, W = put6 w6 g8 (.int .i64 14) (.bool false) (.slice N1 nn1 nc1) (str []) (.int .i64 2) (.slice A1 2 c1) := ⟨_, rfl⟩
 rw [← hW]
 replace E := hid (show Ext w w7 by rw [hW]; exact put6_ext E.out (Nat.le_trans HED.out HG.out))
 replace HBX := hid (show Box w7 kx #[.bool false, .int .i64 3, str xs, .slice none 0 0] 26 by rw [hW]; exact HBX.out.kept put6_kept (by have h := Nat.lt_of_lt_of_le HLX.out (Nat.le_trans HWD.out HG.out); simp; omega))
 replace HBY := hid (show Box w7 (kx + 1) #[.bool false, .int .i64 3, str ys, .slice none 0 0] 26 by rw [hW]; exact HBY.out.kept put6_kept (by have h := Nat.lt_of_lt_of_le HLY.out (Nat.le_trans HWD.out HG.out); simp; omega))
 replace HT8 := hid (show IsTm w7 (M.shadTm a b) (kv 14 false N1 nn1 nc1 [] 2 A1 2 c1) by rw [hW]; exact isTm_put HZ.out (M.shad_kis HOA.out HOB.out) HT8.out)
 have HB8 := hid (show Box w7 g8 #[.int .i64 14, .bool false, .slice N1 nn1 nc1, str [], .int .i64 2, .slice A1 2 c1] 33 by rw [hW]; exact (((((HZ.out.setAt 0 _).setAt 1 _).setAt 2 _).setAt 3 _).setAt 4 _).setAt 5 _)
 clear hW hb hbx hge hng a0 a1 a2 a3 a4 a5 hk6 z0 z1 z2 z3 z4 z5 HZ HWD HED HG
 go_wp2_with fail
 refine (rOf_z (n := (a : Int)) (by omega) (by omega) _).mono ?_
 rintro e wb ⟨v, rfl, hz, hb⟩
 have hnm := kNum_n hz.worth
 replace E := hid (E.out.trans hb)
 replace HBX := hid (HBX.out.up hb)
 replace HBY := hid (HBY.out.up hb)
 replace HT8 := hid (HT8.out.up hb)
 replace HB8 := hid (HB8.out.up hb)
 have HNM := hid hnm
 clear hz hb hnm
 go_wp2_with fail
 refine HNM.out.mono ?_
 rintro e wb ⟨v, rfl, hT, hb⟩
 replace E := hid (E.out.trans hb)
 replace HBX := hid (HBX.out.up hb)
 replace HBY := hid (HBY.out.up hb)
 replace HT8 := hid (HT8.out.up hb)
 replace HB8 := hid (HB8.out.up hb)
 obtain ⟨Np, nnp, ncp, Ap, np, cp, rfl, -, -, -, -, -, -⟩ := hT.shape
 replace hT : IsTm wb (M.knumT a) (kv 1 (decide ((a : Int) < 0)) Np nnp ncp [] 2 Ap np cp) := hT
 have HTp := hid hT
 clear hT hb HNM
 dsimp only [M.knumT, M.Tm.op, M.Tm.g, M.Tm.name, M.Tm.sort]
 obtain ⟨sp, hs⟩ : ∃ s, decide ((a : Int) < 0) = s := ⟨_, rfl⟩
 rw [hs] at HTp ⊢
 clear hs
 go_wp2_with fail
 refine (rOf_z (n := (b : Int)) (by omega) (by omega) _).mono ?_
 rintro e wb ⟨v, rfl, hz, hb⟩
 have hnm := kNum_n hz.worth
 replace E := hid (E.out.trans hb)
 replace HBX := hid (HBX.out.up hb)
 replace HBY := hid (HBY.out.up hb)
 replace HT8 := hid (HT8.out.up hb)
 replace HB8 := hid (HB8.out.up hb)
 replace HTp := hid (HTp.out.up hb)
 have HNM := hid hnm
 clear hz hb hnm
 go_wp2_with fail
 refine HNM.out.mono ?_
 rintro e wb ⟨v, rfl, hT, hb⟩
 replace E := hid (E.out.trans hb)
 replace HBX := hid (HBX.out.up hb)
 replace HBY := hid (HBY.out.up hb)
 replace HT8 := hid (HT8.out.up hb)
 replace HB8 := hid (HB8.out.up hb)
 replace HTp := hid (HTp.out.up hb)
 obtain ⟨Nq, nnq, ncq, Aq, nq, cq, rfl, -, -, -, -, -, -⟩ := hT.shape
 replace hT : IsTm wb (M.knumT b) (kv 1 (decide ((b : Int) < 0)) Nq nnq ncq [] 2 Aq nq cq) := hT
 have HTq := hid hT
 clear hT hb HNM
 dsimp only [M.knumT, M.Tm.op, M.Tm.g, M.Tm.name, M.Tm.sort]
 obtain ⟨sq, hs⟩ : ∃ s, decide ((b : Int) < 0) = s := ⟨_, rfl⟩
 rw [hs] at HTq ⊢
 clear hs
 go_wp2_with fail
 obtain ⟨hw1, hw2, hw3⟩ := want_made HTp.out HTq.out
 replace E := hid (E.out.trans hw3)
 have HT12 := hid hw1
 have HB12 := hid hw2
 clear HTp
 clear HTq
 replace HBX := hid (HBX.out.up hw3)
 replace HBY := hid (HBY.out.up hw3)
 replace HT8 := hid (HT8.out.up hw3)
 replace HB8 := hid (HB8.out.up hw3)
 clear hw1 hw2 hw3
 refine swp_at (fun W => Box W kx #[.bool false, .int .i64 3, str xs, .slice none 0 0] 26 ∧ Box W (kx + 1) #[.bool false, .int .i64 3, str ys, .slice none 0 0] 26 ∧ IsTm W (M.shadTm a b) (kv 14 false N1 nn1 nc1 [] 2 A1 2 c1) ∧ Box W g8 #[.int .i64 14, .bool false, .slice N1 nn1 nc1, str [], .int .i64 2, .slice A1 2 c1] 33 ∧ IsTm W (M.shadTm a b) (kv 14 false none 0 0 [] 2 (some ⟨wb.heap.size + 1 + 1 + 1, 0, none⟩) 2 2) ∧ Box W (wb.heap.size + 1 + 1 + 1 + 1) #[.int .i64 14, .bool false, .slice none 0 0, str [], .int .i64 2, .slice (some ⟨wb.heap.size + 1 + 1 + 1, 0, none⟩) 2 2] 33 ∧ Ext w W) ⟨HBX.out, HBY.out, HT8.out, HB8.out, HT12.out, HB12.out, E.out⟩ ?_
 intro W2 ⟨hx1, hx2, hx3, hx4, hx5, hx6, hx7⟩
 clear HBX HBY HT8 HB8 HT12 HB12 E
 obtain ⟨k12, hk12⟩ : ∃ k, wb.heap.size + 1 + 1 + 1 = k := ⟨_, rfl⟩
 rw [hk12] at hx5 hx6 ⊢
 have HBX := hid hx1
 have HBY := hid hx2
 have HT8 := hid hx3
 have HB8 := hid hx4
 have HT12 := hid hx5
 have HB12 := hid hx6
 have E := hid hx7
 have HLX := hid hx1.lt
 have HLY := hid hx2.lt
 have HL8 := hid hx4.lt
 have HL12 := hid hx6.lt
 clear hx1 hx2 hx3 hx4 hx5 hx6 hx7 hk12
 refine wp_region_L [(2, 0), (6, 0), (0, 2), (1, 2), (3, 2), (4, 2), (5, 2), (7, 2), (8, 2), (9, 2), (10, 2), (11, 2), (12, 2), (13, 2), (14, 2), (15, 0), (16, 0), (17, 5), (18, 3), (19, 4), (20, 5)] 33 zero6 fun wd hb => ?_
 replace E := hid (E.out.trans hb)
 have HWD := hid hb.size
 have HED := hid E.out.size
 replace HBX := hid (HBX.out.up hb)
 replace HBY := hid (HBY.out.up hb)
 replace HT8 := hid (HT8.out.up hb)
 replace HB8 := hid (HB8.out.up hb)
 replace HT12 := hid (HT12.out.up hb)
 replace HB12 := hid (HB12.out.up hb)
 clear hb
 refine WE.q 79 (tv false (3, xs) none 0 0) rfl (fun w' hk => by obtain ⟨⟨x0, x1, x2, x3⟩, -, -⟩ := box4k (HBX.out.up hk); go_simp) ?_
 simp only [Act.put, pA, pB, pC]
 refine WE.q 83 (tv false (3, ys) none 0 0) rfl (fun w' hk => by obtain ⟨⟨x0, x1, x2, x3⟩, -, -⟩ := box4k (HBY.out.up hk); go_simp) ?_
 simp only [Act.put, pA, pB, pC]
 refine WE.callR (d := some 77) rfl rfl (by rfl) (fun w => by go_simp) fun wa hea => ((lsym_t [108, 101, 116] wa).mono ?_)
 rintro e wb ⟨rfl, hb⟩
 refine ⟨_, rfl, hb, ?_⟩
 replace hb := hea.trans hb
 replace E := hid (E.out.trans hb)
 replace HBX := hid (HBX.out.up hb)
 replace HBY := hid (HBY.out.up hb)
 replace HT8 := hid (HT8.out.up hb)
 replace HB8 := hid (HB8.out.up hb)
 replace HT12 := hid (HT12.out.up hb)
 replace HB12 := hid (HB12.out.up hb)
 clear hea hb
 simp only [Act.put, pA, pB, pC]
 refine WE.callR (d := some 78) rfl rfl (by rfl) (fun w => by go_simp) fun wa hea => ((lsym_t [118] wa).mono ?_)
 rintro e wb ⟨rfl, hb⟩
 refine ⟨_, rfl, hb, ?_⟩
 replace hb := hea.trans hb
 replace E := hid (E.out.trans hb)
 replace HBX := hid (HBX.out.up hb)
 replace HBY := hid (HBY.out.up hb)
 replace HT8 := hid (HT8.out.up hb)
 replace HB8 := hid (HB8.out.up hb)
 replace HT12 := hid (HT12.out.up hb)
 replace HB12 := hid (HB12.out.up hb)
 clear hea hb
 simp only [Act.put, pA, pB, pC]
 refine WE.newR (d := some 80) (cs := #[.bool false, .int .i64 4, str [118], .slice none 0 0, .bool false, .int .i64 3, str xs, .slice none 0 0]) (t := 26) (v := fun g => .slice (some ⟨g, 0, none⟩) 2 2) rfl rfl (by rfl) (fun w => by go_simp) fun g80 wb hb hbx _ => ?_
 replace E := hid (E.out.trans hb)
 replace HBX := hid (HBX.out.up hb)
 replace HBY := hid (HBY.out.up hb)
 replace HT8 := hid (HT8.out.up hb)
 replace HB8 := hid (HB8.out.up hb)
 replace HT12 := hid (HT12.out.up hb)
 replace HB12 := hid (HB12.out.up hb)
 have HKg80 := hid (Kids.box (ks := [M.SY [118], M.NU xs]) hbx (Reps.leaf (Reps.leaf (Reps.nil _))) rfl (by simp))
 clear hb hbx
 simp only [Act.put, pA, pB, pC]
 refine WE.callR (d := some 81) rfl rfl (by rfl) (fun w => by go_simp) fun wa hea => ((llist_t (some ⟨g80, 0, none⟩) 2 2 wa).mono ?_)
 rintro e wb ⟨rfl, hb⟩
 refine ⟨_, rfl, hb, ?_⟩
 replace hb := hea.trans hb
 replace E := hid (E.out.trans hb)
 replace HBX := hid (HBX.out.up hb)
 replace HBY := hid (HBY.out.up hb)
 replace HT8 := hid (HT8.out.up hb)
 replace HB8 := hid (HB8.out.up hb)
 replace HT12 := hid (HT12.out.up hb)
 replace HB12 := hid (HB12.out.up hb)
 replace HKg80 := hid (HKg80.out.up hb)
 clear hea hb
 simp only [Act.put, pA, pB, pC]
 refine WE.callR (d := some 82) rfl rfl (by rfl) (fun w => by go_simp) fun wa hea => ((lsym_t [118] wa).mono ?_)
 rintro e wb ⟨rfl, hb⟩
 refine ⟨_, rfl, hb, ?_⟩
 replace hb := hea.trans hb
 replace E := hid (E.out.trans hb)
 replace HBX := hid (HBX.out.up hb)
 replace HBY := hid (HBY.out.up hb)
 replace HT8 := hid (HT8.out.up hb)
 replace HB8 := hid (HB8.out.up hb)
 replace HT12 := hid (HT12.out.up hb)
 replace HB12 := hid (HB12.out.up hb)
 replace HKg80 := hid (HKg80.out.up hb)
 clear hea hb
 simp only [Act.put, pA, pB, pC]
 refine WE.newR (d := some 84) (cs := #[.bool false, .int .i64 4, str [118], .slice none 0 0, .bool false, .int .i64 3, str ys, .slice none 0 0]) (t := 26) (v := fun g => .slice (some ⟨g, 0, none⟩) 2 2) rfl rfl (by rfl) (fun w => by go_simp) fun g84 wb hb hbx _ => ?_
 replace E := hid (E.out.trans hb)
 replace HBX := hid (HBX.out.up hb)
 replace HBY := hid (HBY.out.up hb)
 replace HT8 := hid (HT8.out.up hb)
 replace HB8 := hid (HB8.out.up hb)
 replace HT12 := hid (HT12.out.up hb)
 replace HB12 := hid (HB12.out.up hb)
 replace HKg80 := hid (HKg80.out.up hb)
 have HKg84 := hid (Kids.box (ks := [M.SY [118], M.NU ys]) hbx (Reps.leaf (Reps.leaf (Reps.nil _))) rfl (by simp))
 clear hb hbx
 simp only [Act.put, pA, pB, pC]
 refine WE.callR (d := some 85) rfl rfl (by rfl) (fun w => by go_simp) fun wa hea => ((llist_t (some ⟨g84, 0, none⟩) 2 2 wa).mono ?_)
 rintro e wb ⟨rfl, hb⟩
 refine ⟨_, rfl, hb, ?_⟩
 replace hb := hea.trans hb
 replace E := hid (E.out.trans hb)
 replace HBX := hid (HBX.out.up hb)
 replace HBY := hid (HBY.out.up hb)
 replace HT8 := hid (HT8.out.up hb)
 replace HB8 := hid (HB8.out.up hb)
 replace HT12 := hid (HT12.out.up hb)
 replace HB12 := hid (HB12.out.up hb)
 replace HKg80 := hid (HKg80.out.up hb)
 replace HKg84 := hid (HKg84.out.up hb)
 clear hea hb
 simp only [Act.put, pA, pB, pC]
 refine WE.newR (d := some 86) (cs := #[.bool true, .int .i64 0, .string ⟨#[]⟩, .slice (some ⟨g80, 0, none⟩) 2 2, .bool true, .int .i64 0, .string ⟨#[]⟩, .slice (some ⟨g84, 0, none⟩) 2 2]) (t := 26) (v := fun g => .slice (some ⟨g, 0, none⟩) 2 2) rfl rfl (by rfl) (fun w => by go_simp) fun g86 wb hb hbx _ => ?_
 replace E := hid (E.out.trans hb)
 replace HBX := hid (HBX.out.up hb)
 replace HBY := hid (HBY.out.up hb)
 replace HT8 := hid (HT8.out.up hb)
 replace HB8 := hid (HB8.out.up hb)
 replace HT12 := hid (HT12.out.up hb)
 replace HB12 := hid (HB12.out.up hb)
 replace HKg80 := hid (HKg80.out.up hb)
 replace HKg84 := hid (HKg84.out.up hb)
 have HKg86 := hid (Kids.box (ks := [M.LI [M.SY [118], M.NU xs], M.LI [M.SY [118], M.NU ys]]) hbx (Reps.list HKg80.out (Reps.list HKg84.out (Reps.nil _))) rfl (by simp))
 clear hb hbx
 simp only [Act.put, pA, pB, pC]
 clear HKg80
 clear HKg84
 refine WE.callR (d := some 87) rfl rfl (by rfl) (fun w => by go_simp) fun wa hea => ((llist_t (some ⟨g86, 0, none⟩) 2 2 wa).mono ?_)
 rintro e wb ⟨rfl, hb⟩
 refine ⟨_, rfl, hb, ?_⟩
 replace hb := hea.trans hb
 replace E := hid (E.out.trans hb)
 replace HBX := hid (HBX.out.up hb)
 replace HBY := hid (HBY.out.up hb)
 replace HT8 := hid (HT8.out.up hb)
 replace HB8 := hid (HB8.out.up hb)
 replace HT12 := hid (HT12.out.up hb)
 replace HB12 := hid (HB12.out.up hb)
 replace HKg86 := hid (HKg86.out.up hb)
 clear hea hb
 simp only [Act.put, pA, pB, pC]
 refine WE.callR (d := some 88) rfl rfl (by rfl) (fun w => by go_simp) fun wa hea => ((lsym_t [118] wa).mono ?_)
 rintro e wb ⟨rfl, hb⟩
 refine ⟨_, rfl, hb, ?_⟩
 replace hb := hea.trans hb
 replace E := hid (E.out.trans hb)
 replace HBX := hid (HBX.out.up hb)
 replace HBY := hid (HBY.out.up hb)
 replace HT8 := hid (HT8.out.up hb)
 replace HB8 := hid (HB8.out.up hb)
 replace HT12 := hid (HT12.out.up hb)
 replace HB12 := hid (HB12.out.up hb)
 replace HKg86 := hid (HKg86.out.up hb)
 clear hea hb
 simp only [Act.put, pA, pB, pC]
 refine WE.newR (d := some 89) (cs := #[.bool false, .int .i64 4, str [108, 101, 116], .slice none 0 0, .bool true, .int .i64 0, .string ⟨#[]⟩, .slice (some ⟨g86, 0, none⟩) 2 2, .bool false, .int .i64 4, str [118], .slice none 0 0]) (t := 26) (v := fun g => .slice (some ⟨g, 0, none⟩) 3 3) rfl rfl (by rfl) (fun w => by go_simp) fun g89 wb hb hbx _ => ?_
 replace E := hid (E.out.trans hb)
 replace HBX := hid (HBX.out.up hb)
 replace HBY := hid (HBY.out.up hb)
 replace HT8 := hid (HT8.out.up hb)
 replace HB8 := hid (HB8.out.up hb)
 replace HT12 := hid (HT12.out.up hb)
 replace HB12 := hid (HB12.out.up hb)
 replace HKg86 := hid (HKg86.out.up hb)
 have HKg89 := hid (Kids.box (ks := [M.SY [108, 101, 116], M.LI [M.LI [M.SY [118], M.NU xs], M.LI [M.SY [118], M.NU ys]], M.SY [118]]) hbx (Reps.leaf (Reps.list HKg86.out (Reps.leaf (Reps.nil _)))) rfl (by simp))
 clear hb hbx
 simp only [Act.put, pA, pB, pC]
 clear HKg86
 refine WE.callR (d := some 90) rfl rfl (by rfl) (fun w => by go_simp) fun wa hea => ((llist_t (some ⟨g89, 0, none⟩) 3 3 wa).mono ?_)
 rintro e wb ⟨rfl, hb⟩
 refine ⟨_, rfl, hb, ?_⟩
 replace hb := hea.trans hb
 replace E := hid (E.out.trans hb)
 replace HBX := hid (HBX.out.up hb)
 replace HBY := hid (HBY.out.up hb)
 replace HT8 := hid (HT8.out.up hb)
 replace HB8 := hid (HB8.out.up hb)
 replace HT12 := hid (HT12.out.up hb)
 replace HB12 := hid (HB12.out.up hb)
 replace HKg89 := hid (HKg89.out.up hb)
 clear hea hb
 simp only [Act.put, pA, pB, pC]
 refine WE.callR (d := some 91) rfl rfl (by rfl) (fun w => by go_simp) fun wa hea => ((term_said (M.twice_term HOA.out HOB.out) (M.twice_txt HOA.out HOB.out) (isT_list (HKg89.out.up hea)) (HTB.out _ (E.out.trans hea)).1).mono ?_)
 rintro e wb ⟨v, rfl, hT, hb⟩
 refine ⟨_, rfl, hb, ?_⟩
 replace hT := hT.sub (gp_sub _ _)
 replace hb := hea.trans hb
 replace E := hid (E.out.trans hb)
 clear HKg89
 replace HBX := hid (HBX.out.up hb)
 replace HBY := hid (HBY.out.up hb)
 replace HT8 := hid (HT8.out.up hb)
 replace HB8 := hid (HB8.out.up hb)
 replace HT12 := hid (HT12.out.up hb)
 replace HB12 := hid (HB12.out.up hb)
 obtain ⟨N3, nn3, nc3, A3, n3, c3, rfl, -, -, -, -, -, -⟩ := hT.shape
 clear hT hea hb
 dsimp only [M.K0, M.Tm.op, M.Tm.g, M.Tm.name, M.Tm.sort]
 simp only [Act.put, pA, pB, pC]
 refine WE.p 76 (.tuple #[kv 0 false N3 nn3 nc3 [] 0 A3 n3 c3, .int .i64 16]) ?_
 simp only [Act.put, pA, pB, pC]
 refine WE.p 92 (kv 0 false N3 nn3 nc3 [] 0 A3 n3 c3) ?_
 simp only [Act.put, pA, pB, pC]
 refine WE.y 93 (.int .i64 16) ?_
 simp only [Act.put, pA, pB, pC]
 refine WE.var (d := some 13) rfl fun g13 w6 hb hbx hge hng => ?_
 replace E := hid (E.out.trans hb)
 replace HBX := hid (HBX.out.up hb)
 replace HBY := hid (HBY.out.up hb)
 replace HT8 := hid (HT8.out.up hb)
 replace HB8 := hid (HB8.out.up hb)
 replace HT12 := hid (HT12.out.up hb)
 replace HB12 := hid (HB12.out.up hb)
 obtain ⟨⟨z0, z1, z2, z3, z4, z5⟩, ⟨a0, a1, a2, a3, a4, a5⟩, hk6⟩ := boxF6 (show Box w6 g13 zero6 33 from hbx)
 simp only [Act.put, pA, pB, pC]
 refine WE.store (w' := put6 w6 g13 (.int .i64 0) (.bool false) (.slice N3 nn3 nc3) (str []) (.int .i64 0) (.slice A3 n3 c3)) rfl rfl (by rfl) (by go_simp) (by simp [put6]) ?_
 refine WE.y 14 (.int .i64 16) ?_
 refine WE.done ?_
 simp only [Act.put, pA, pB, pC]
 have HG := hid (show wd.heap.size ≤ g13 from hge)
 have HZ := hid (show Box w6 g13 zero6 33 from hbx)
 obtain ⟨w7, hW⟩ : ∃ W, W = put6 w6 g13 (.int .i64 0) (.bool false) (.slice N3 nn3 nc3) (str []) (.int .i64 0) (.slice A3 n3 c3) := ⟨_, rfl⟩
 rw [← hW]
 replace E := hid (show Ext w w7 by rw [hW]; exact put6_ext E.out (Nat.le_trans HED.out HG.out))
 replace HBX := hid (show Box w7 kx #[.bool false, .int .i64 3, str xs, .slice none 0 0] 26 by rw [hW]; exact HBX.out.kept put6_kept (by have h := Nat.lt_of_lt_of_le HLX.out (Nat.le_trans HWD.out HG.out); simp; omega))
 replace HBY := hid (show Box w7 (kx + 1) #[.bool false, .int .i64 3, str ys, .slice none 0 0] 26 by rw [hW]; exact HBY.out.kept put6_kept (by have h := Nat.lt_of_lt_of_le HLY.out (Nat.le_trans HWD.out HG.out); simp; omega))
 replace HB8 := hid (show Box w7 g8 #[.int .i64 14, .bool false, .slice N1 nn1 nc1, str [], .int .i64 2, .slice A1 2 c1] 33 by rw [hW]; exact HB8.out.kept put6_kept (by have h := Nat.lt_of_lt_of_le HL8.out (Nat.le_trans HWD.out HG.out); simp; omega))
 replace HB12 := hid (show Box w7 (k12 + 1) #[.int .i64 14, .bool false, .slice none 0 0, str [], .int .i64 2, .slice (some ⟨k12, 0, none⟩) 2 2] 33 by rw [hW]; exact HB12.out.kept put6_kept (by have h := Nat.lt_of_lt_of_le HL12.out (Nat.le_trans HWD.out HG.out); simp; omega))
 replace HT8 := hid (show IsTm w7 (M.shadTm a b) (kv 14 false N1 nn1 nc1 [] 2 A1 2 c1) by rw [hW]; exact isTm_put HZ.out (M.shad_kis HOA.out HOB.out) HT8.out)
 replace HT12 := hid (show IsTm w7 (M.shadTm a b) (kv 14 false none 0 0 [] 2 (some ⟨k12, 0, none⟩) 2 2) by rw [hW]; exact isTm_put HZ.out (M.shad_kis HOA.out HOB.out) HT12.out)
 clear hW hb hbx hge hng a0 a1 a2 a3 a4 a5 hk6 z0 z1 z2 z3 z4 z5 HZ HWD HED HG
 go_wp2_with fail
 have HLX := hid HBX.out.lt
 have HLY := hid HBY.out.lt
 have HL8 := hid HB8.out.lt
 have HL12 := hid HB12.out.lt
 refine wp_region_L [(2, 0), (7, 0), (0, 2), (1, 2), (3, 2), (4, 2), (5, 2), (6, 2), (8, 2), (9, 2), (10, 2), (11, 0), (12, 0), (13, 5), (14, 3), (15, 4), (16, 5)] 33 zero6 fun wd hb => ?_
 replace E := hid (E.out.trans hb)
 have HWD := hid hb.size
 have HED := hid E.out.size
 replace HBX := hid (HBX.out.up hb)
 replace HBY := hid (HBY.out.up hb)
 replace HT8 := hid (HT8.out.up hb)
 replace HB8 := hid (HB8.out.up hb)
 replace HT12 := hid (HT12.out.up hb)
 replace HB12 := hid (HB12.out.up hb)
 clear hb
 refine WE.q 97 (tv false (3, xs) none 0 0) rfl (fun w' hk => by obtain ⟨⟨x0, x1, x2, x3⟩, -, -⟩ := box4k (HBX.out.up hk); go_simp) ?_
 simp only [Act.put, pA, pB, pC]
 refine WE.q 102 (tv false (3, xs) none 0 0) rfl (fun w' hk => by obtain ⟨⟨x0, x1, x2, x3⟩, -, -⟩ := box4k (HBX.out.up hk); go_simp) ?_
 simp only [Act.put, pA, pB, pC]
 refine WE.callR (d := some 95) rfl rfl (by rfl) (fun w => by go_simp) fun wa hea => ((lsym_t [108, 101, 116] wa).mono ?_)
 rintro e wb ⟨rfl, hb⟩
 refine ⟨_, rfl, hb, ?_⟩
 replace hb := hea.trans hb
 replace E := hid (E.out.trans hb)
 replace HBX := hid (HBX.out.up hb)
 replace HBY := hid (HBY.out.up hb)
 replace HT8 := hid (HT8.out.up hb)
 replace HB8 := hid (HB8.out.up hb)
 replace HT12 := hid (HT12.out.up hb)
 replace HB12 := hid (HB12.out.up hb)
 clear hea hb
 simp only [Act.put, pA, pB, pC]
 refine WE.callR (d := some 96) rfl rfl (by rfl) (fun w => by go_simp) fun wa hea => ((lsym_t [97, 110, 100] wa).mono ?_)
 rintro e wb ⟨rfl, hb⟩
 refine ⟨_, rfl, hb, ?_⟩
 replace hb := hea.trans hb
 replace E := hid (E.out.trans hb)
 replace HBX := hid (HBX.out.up hb)
 replace HBY := hid (HBY.out.up hb)
 replace HT8 := hid (HT8.out.up hb)
 replace HB8 := hid (HB8.out.up hb)
 replace HT12 := hid (HT12.out.up hb)
 replace HB12 := hid (HB12.out.up hb)
 clear hea hb
 simp only [Act.put, pA, pB, pC]
 refine WE.newR (d := some 98) (cs := #[.bool false, .int .i64 4, str [97, 110, 100], .slice none 0 0, .bool false, .int .i64 3, str xs, .slice none 0 0]) (t := 26) (v := fun g => .slice (some ⟨g, 0, none⟩) 2 2) rfl rfl (by rfl) (fun w => by go_simp) fun g98 wb hb hbx _ => ?_
 replace E := hid (E.out.trans hb)
 replace HBX := hid (HBX.out.up hb)
 replace HBY := hid (HBY.out.up hb)
 replace HT8 := hid (HT8.out.up hb)
 replace HB8 := hid (HB8.out.up hb)
 replace HT12 := hid (HT12.out.up hb)
 replace HB12 := hid (HB12.out.up hb)
 have HKg98 := hid (Kids.box (ks := [M.SY [97, 110, 100], M.NU xs]) hbx (Reps.leaf (Reps.leaf (Reps.nil _))) rfl (by simp))
 clear hb hbx
 simp only [Act.put, pA, pB, pC]
 refine WE.callR (d := some 99) rfl rfl (by rfl) (fun w => by go_simp) fun wa hea => ((llist_t (some ⟨g98, 0, none⟩) 2 2 wa).mono ?_)
 rintro e wb ⟨rfl, hb⟩
 refine ⟨_, rfl, hb, ?_⟩
 replace hb := hea.trans hb
 replace E := hid (E.out.trans hb)
 replace HBX := hid (HBX.out.up hb)
 replace HBY := hid (HBY.out.up hb)
 replace HT8 := hid (HT8.out.up hb)
 replace HB8 := hid (HB8.out.up hb)
 replace HT12 := hid (HT12.out.up hb)
 replace HB12 := hid (HB12.out.up hb)
 replace HKg98 := hid (HKg98.out.up hb)
 clear hea hb
 simp only [Act.put, pA, pB, pC]
 refine WE.newR (d := some 100) (cs := #[.bool true, .int .i64 0, .string ⟨#[]⟩, .slice (some ⟨g98, 0, none⟩) 2 2]) (t := 26) (v := fun g => .slice (some ⟨g, 0, none⟩) 1 1) rfl rfl (by rfl) (fun w => by go_simp) fun g100 wb hb hbx _ => ?_
 replace E := hid (E.out.trans hb)
 replace HBX := hid (HBX.out.up hb)
 replace HBY := hid (HBY.out.up hb)
 replace HT8 := hid (HT8.out.up hb)
 replace HB8 := hid (HB8.out.up hb)
 replace HT12 := hid (HT12.out.up hb)
 replace HB12 := hid (HB12.out.up hb)
 replace HKg98 := hid (HKg98.out.up hb)
 have HKg100 := hid (Kids.box (ks := [M.LI [M.SY [97, 110, 100], M.NU xs]]) hbx (Reps.list HKg98.out (Reps.nil _)) rfl (by simp))
 clear hb hbx
 simp only [Act.put, pA, pB, pC]
 clear HKg98
 refine WE.callR (d := some 101) rfl rfl (by rfl) (fun w => by go_simp) fun wa hea => ((llist_t (some ⟨g100, 0, none⟩) 1 1 wa).mono ?_)
 rintro e wb ⟨rfl, hb⟩
 refine ⟨_, rfl, hb, ?_⟩
 replace hb := hea.trans hb
 replace E := hid (E.out.trans hb)
 replace HBX := hid (HBX.out.up hb)
 replace HBY := hid (HBY.out.up hb)
 replace HT8 := hid (HT8.out.up hb)
 replace HB8 := hid (HB8.out.up hb)
 replace HT12 := hid (HT12.out.up hb)
 replace HB12 := hid (HB12.out.up hb)
 replace HKg100 := hid (HKg100.out.up hb)
 clear hea hb
 simp only [Act.put, pA, pB, pC]
 refine WE.newR (d := some 103) (cs := #[.bool false, .int .i64 4, str [108, 101, 116], .slice none 0 0, .bool true, .int .i64 0, .string ⟨#[]⟩, .slice (some ⟨g100, 0, none⟩) 1 1, .bool false, .int .i64 3, str xs, .slice none 0 0]) (t := 26) (v := fun g => .slice (some ⟨g, 0, none⟩) 3 3) rfl rfl (by rfl) (fun w => by go_simp) fun g103 wb hb hbx _ => ?_
 replace E := hid (E.out.trans hb)
 replace HBX := hid (HBX.out.up hb)
 replace HBY := hid (HBY.out.up hb)
 replace HT8 := hid (HT8.out.up hb)
 replace HB8 := hid (HB8.out.up hb)
 replace HT12 := hid (HT12.out.up hb)
 replace HB12 := hid (HB12.out.up hb)
 replace HKg100 := hid (HKg100.out.up hb)
 have HKg103 := hid (Kids.box (ks := [M.SY [108, 101, 116], M.LI [M.LI [M.SY [97, 110, 100], M.NU xs]], M.NU xs]) hbx (Reps.leaf (Reps.list HKg100.out (Reps.leaf (Reps.nil _)))) rfl (by simp))
 clear hb hbx
 simp only [Act.put, pA, pB, pC]
 clear HKg100
 refine WE.callR (d := some 104) rfl rfl (by rfl) (fun w => by go_simp) fun wa hea => ((llist_t (some ⟨g103, 0, none⟩) 3 3 wa).mono ?_)
 rintro e wb ⟨rfl, hb⟩
 refine ⟨_, rfl, hb, ?_⟩
 replace hb := hea.trans hb
 replace E := hid (E.out.trans hb)
 replace HBX := hid (HBX.out.up hb)
 replace HBY := hid (HBY.out.up hb)
 replace HT8 := hid (HT8.out.up hb)
 replace HB8 := hid (HB8.out.up hb)
 replace HT12 := hid (HT12.out.up hb)
 replace HB12 := hid (HB12.out.up hb)
 replace HKg103 := hid (HKg103.out.up hb)
 clear hea hb
 simp only [Act.put, pA, pB, pC]
 refine WE.callR (d := some 105) rfl rfl (by rfl) (fun w => by go_simp) fun wa hea => ((term_said (M.and_term HOA.out) (M.and_txt HOA.out) (isT_list (HKg103.out.up hea)) (HTB.out _ (E.out.trans hea)).1).mono ?_)
 rintro e wb ⟨v, rfl, hT, hb⟩
 refine ⟨_, rfl, hb, ?_⟩
 replace hT := hT.sub (gp_sub _ _)
 replace hb := hea.trans hb
 replace E := hid (E.out.trans hb)
 clear HKg103
 replace HBX := hid (HBX.out.up hb)
 replace HBY := hid (HBY.out.up hb)
 replace HT8 := hid (HT8.out.up hb)
 replace HB8 := hid (HB8.out.up hb)
 replace HT12 := hid (HT12.out.up hb)
 replace HB12 := hid (HB12.out.up hb)
 obtain ⟨N4, nn4, nc4, A4, n4, c4, rfl, -, -, -, -, -, -⟩ := hT.shape
 clear hT hea hb
 dsimp only [M.K0, M.Tm.op, M.Tm.g, M.Tm.name, M.Tm.sort]
 simp only [Act.put, pA, pB, pC]
 refine WE.p 94 (.tuple #[kv 0 false N4 nn4 nc4 [] 0 A4 n4 c4, .int .i64 16]) ?_
 simp only [Act.put, pA, pB, pC]
 refine WE.p 106 (kv 0 false N4 nn4 nc4 [] 0 A4 n4 c4) ?_
 simp only [Act.put, pA, pB, pC]
 refine WE.y 107 (.int .i64 16) ?_
 simp only [Act.put, pA, pB, pC]
 refine WE.var (d := some 15) rfl fun g15 w6 hb hbx hge hng => ?_
 replace E := hid (E.out.trans hb)
 replace HBX := hid (HBX.out.up hb)
 replace HBY := hid (HBY.out.up hb)
 replace HT8 := hid (HT8.out.up hb)
 replace HB8 := hid (HB8.out.up hb)
 replace HT12 := hid (HT12.out.up hb)
 replace HB12 := hid (HB12.out.up hb)
 obtain ⟨⟨z0, z1, z2, z3, z4, z5⟩, ⟨a0, a1, a2, a3, a4, a5⟩, hk6⟩ := boxF6 (show Box w6 g15 zero6 33 from hbx)
 simp only [Act.put, pA, pB, pC]
 refine WE.store (w' := put6 w6 g15 (.int .i64 0) (.bool false) (.slice N4 nn4 nc4) (str []) (.int .i64 0) (.slice A4 n4 c4)) rfl rfl (by rfl) (by go_simp) (by simp [put6]) ?_
 refine WE.y 16 (.int .i64 16) ?_
 refine WE.done ?_
 simp only [Act.put, pA, pB, pC]
 have HG := hid (show wd.heap.size ≤ g15 from hge)
 have HZ := hid (show Box w6 g15 zero6 33 from hbx)
 obtain ⟨w7, hW⟩ : ∃ W, W = put6 w6 g15 (.int .i64 0) (.bool false) (.slice N4 nn4 nc4) (str []) (.int .i64 0) (.slice A4 n4 c4) := ⟨_, rfl⟩
 rw [← hW]
 replace E := hid (show Ext w w7 by rw [hW]; exact put6_ext E.out (Nat.le_trans HED.out HG.out))
 replace HBX := hid (show Box w7 kx #[.bool false, .int .i64 3, str xs, .slice none 0 0] 26 by rw [hW]; exact HBX.out.kept put6_kept (by have h := Nat.lt_of_lt_of_le HLX.out (Nat.le_trans HWD.out HG.out); simp; omega))
 replace HBY := hid (show Box w7 (kx + 1) #[.bool false, .int .i64 3, str ys, .slice none 0 0] 26 by rw [hW]; exact HBY.out.kept put6_kept (by have h := Nat.lt_of_lt_of_le HLY.out (Nat.le_trans HWD.out HG.out); simp; omega))
 replace HB8 := hid (show Box w7 g8 #[.int .i64 14, .bool false, .slice N1 nn1 nc1, str [], .int .i64 2, .slice A1 2 c1] 33 by rw [hW]; exact HB8.out.kept put6_kept (by have h := Nat.lt_of_lt_of_le HL8.out (Nat.le_trans HWD.out HG.out); simp; omega))
 replace HB12 := hid (show Box w7 (k12 + 1) #[.int .i64 14, .bool false, .slice none 0 0, str [], .int .i64 2, .slice (some ⟨k12, 0, none⟩) 2 2] 33 by rw [hW]; exact HB12.out.kept put6_kept (by have h := Nat.lt_of_lt_of_le HL12.out (Nat.le_trans HWD.out HG.out); simp; omega))
 replace HT8 := hid (show IsTm w7 (M.shadTm a b) (kv 14 false N1 nn1 nc1 [] 2 A1 2 c1) by rw [hW]; exact isTm_put HZ.out (M.shad_kis HOA.out HOB.out) HT8.out)
 replace HT12 := hid (show IsTm w7 (M.shadTm a b) (kv 14 false none 0 0 [] 2 (some ⟨k12, 0, none⟩) 2 2) by rw [hW]; exact isTm_put HZ.out (M.shad_kis HOA.out HOB.out) HT12.out)
 clear hW hb hbx hge hng a0 a1 a2 a3 a4 a5 hk6 z0 z1 z2 z3 z4 z5 HZ HWD HED HG
 have hsm := rkSame_n (M.shadTm a b) HT8.out HT12.out
 rw [M.ksame_shad] at hsm
 have HSM := hid hsm
 clear hsm HBX HBY
 obtain ⟨⟨x0, x1, x2, x3, x4, x5⟩, -, -⟩ := boxF6 HB8.out
 obtain ⟨⟨y0, y1, y2, y3, y4, y5⟩, -, -⟩ := boxF6 HB12.out
 go_wp2_with fail
 refine HSM.out.mono ?_
 rintro e wz ⟨rfl, hb⟩
 replace E := hid (E.out.trans hb)
 clear hb x0 x1 x2 x3 x4 x5 y0 y1 y2 y3 y4 y5
 go_wp2_with fail
 go_ret
 exact ⟨rfl, E.out⟩
end Go.Proofs.YtgkofipifjfjhaaGreatDoor.Q

