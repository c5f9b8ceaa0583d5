/-
  Words for integers in memory (a bool and a row of limbs), and the leaves of package whole: the methods of a sign.
-/
import Derived.Test.YtoenjbkmiphhoaaGreatDoorA01
import Derived.Test.YtoenjbkmiphhoaaGreatDoorA03
import Derived.Test.YtoenjbkmiphhoaaGreatDoorA04
import Derived.Lib.SliceRun
import Derived.Deep.Cut
namespace Go.Proofs.YtoenjbkmiphhoaaGreatDoor
set_option linter.unusedSimpArgs false
set_option linter.unusedVariables false
open Go.RowKit
def Worth (w:World)(v:Value)(Z:Int)(k:Nat): Prop:=∃g A n c l,v=.agg #[.bool g,.slice A n c]∧Num w w.heap.size (.slice A n c) l∧l.length≤k∧M.zv g l=Z
def IsZ (w:World)(v:Value)(Z:Int)(k:Nat): Prop:=∃A n c,v=.agg #[.bool (decide (Z<0)),.slice A n c]∧Num w w.heap.size (.slice A n c) (M.limbs Z.natAbs)∧(M.limbs Z.natAbs).length≤k
def InZ (w:World)(v:Value)(Z:Int)(k:Nat): Prop:=∃A n c,v=.agg #[.int .i64 Z.sign,.slice A n c]∧Num w w.heap.size (.slice A n c) (M.limbs Z.natAbs)∧(M.limbs Z.natAbs).length≤k
theorem Worth.up {w w':World}{v:Value}{Z:Int}{k:Nat}(h:Worth w v Z k)(e:Ext w w'): Worth w' v Z k:=by
 obtain⟨g,A,n,c,l,h1,h2,h3,h4⟩:=h;exact⟨g,A,n,c,l,h1,h2.up e,h3,h4⟩
theorem IsZ.up {w w':World}{v:Value}{Z:Int}{k:Nat}(h:IsZ w v Z k)(e:Ext w w'): IsZ w' v Z k:=by
 obtain⟨A,n,c,h1,h2,h3⟩:=h;exact⟨A,n,c,h1,h2.up e,h3⟩
theorem InZ.up {w w':World}{v:Value}{Z:Int}{k:Nat}(h:InZ w v Z k)(e:Ext w w'): InZ w' v Z k:=by
 obtain⟨A,n,c,h1,h2,h3⟩:=h;exact⟨A,n,c,h1,h2.up e,h3⟩
theorem IsZ.worth {w:World}{v:Value}{Z:Int}{k:Nat}(h:IsZ w v Z k): Worth w v Z k:=by
 obtain⟨A,n,c,h1,h2,h3⟩:=h;exact⟨_,A,n,c,_,h1,h2,h3,M.zv_of Z⟩
def GivesZ (w:World)(Z:Int)(k:Nat)(e:Ending)(w':World): Prop:=∃v,e=.returned v∧IsZ w' v Z k∧Ext w w'
def GivesI (w:World)(Z:Int)(k:Nat)(e:Ending)(w':World): Prop:=∃v,e=.returned v∧InZ w' v Z k∧Ext w w'
def GivesB (w:World)(b:Bool)(e:Ending)(w':World): Prop:=e=.returned (.bool b)∧Ext w w'
def GivesS (w:World)(s:Int)(e:Ending)(w':World): Prop:=e=.returned (.agg #[.int .i64 s])∧Ext w w'
theorem Num.own {w:World}{C:Nat}{v:Value}{l:List Nat}(h:Num w C v l)(hC:C≤w.heap.size): Num w w.heap.size v l:=h.more hC
theorem side_mul {s t:Int}(h1:-1≤s)(h2:s≤1)(h3:-1≤t)(h4:t≤1): IntKind.i64.wrap (s*t)=s*t:=by
 rcases (by omega:s=-1∨s=0∨s=1) with rfl|rfl|rfl<;>rcases (by omega:t=-1∨t=0∨t=1) with rfl|rfl|rfl<;>rfl
theorem below_s (w:World)(s:Int): Calls Tryz.prog 183 #[.agg #[.int .i64 s]] w (GivesB w (decide (s<0))):=by
 go_enter Tryz.func183,Tryz.ntmps183
 go_wp2;go_ret;exact⟨rfl,Ext.alloc _ _⟩
theorem times_s (w:World)(s t:Int)(h1:-1≤s)(h2:s≤1)(h3:-1≤t)(h4:t≤1): Calls Tryz.prog 148 #[.agg #[.int .i64 s],.agg #[.int .i64 t]] w (GivesS w (s*t)):=by
 have hw:=side_mul h1 h2 h3 h4;go_enter Tryz.func148,Tryz.ntmps148
 go_wp2;exact bodyPost_ret (v:=.agg #[.int .i64 (s*t)]) (by simp[results,Tryz.results148,go_sem]) rfl ⟨rfl,(((Ext.alloc _ _).alloc' _).alloc' _)⟩
theorem most_s (w:World)(s:Int){m:Int}(hm:Hid ((s<0→m=9223372036854775808)∧(0≤s→m=9223372036854775807))): Calls Tryz.prog 242 #[.agg #[.int .i64 s]] w fun e w'=>e=.returned (.int .u64 m)∧Ext w w':=by
 obtain⟨b,hb⟩:∃b:Bool,b=decide (s<0):=⟨_,rfl⟩;have HB:=hid hb;clear hb;cases b
 all_goals
  go_enter Tryz.func242,Tryz.ntmps242
  go_wp2_with fail
  refine(below_s _ _).mono ?_;rw[←HB.out];rintro e wn ⟨rfl,hb⟩;have E:=hid hb;clear hb;go_wp2;go_ret
 ·exact⟨by rw[hm.out.2 (by have:=HB.out;simp at this;omega)];rfl,(Ext.alloc _ _).trans E.out⟩
 ·exact⟨by rw[hm.out.1 (by have:=HB.out;simp at this;omega)];rfl,(Ext.alloc _ _).trans E.out⟩
theorem signed_any (w:World)(s:Int)(A:Option Addr)(n c:Nat){l:List Nat}(hm:Num w w.heap.size (.slice A n c) l){Z:Int}{k:Nat}(hl:Hid (l=M.limbs Z.natAbs))(hs:Hid (Z.natAbs≠0→s=Z.sign))(hk:Hid (l.length≤k)):
 Calls Tryz.prog 147 #[.agg #[.int .i64 s],.slice A n c] w (GivesI w Z k):=by
 have HM:=hid hm;have HN:=hid (show n=l.length by obtain⟨_,_,_,e,h,_⟩:=hm;injection e with _ e2;rw[e2,h]);clear hm
 by_cases h0:n=0
 ·subst h0;have HZ:=hid (show Z=0 by
   have h1:=HN.out;rw[hl.out] at h1;have h2:=M.limbs_eq_nil.1 (List.eq_nil_of_length_eq_zero h1.symm);omega)
  go_enter Tryz.func147,Tryz.ntmps147
  go_wp2;refine bodyPost_ret (v:=.agg #[.int .i64 0,.slice none 0 0]) (by simp[results,Tryz.results147,go_sem]) rfl ⟨_,rfl,?_,((Ext.alloc _ _).alloc' _)⟩;rw[HZ.out];exact⟨_,_,_,rfl,by rw[show (0:Int).natAbs=0 from rfl,M.limbs_zero];exact Num.nil _ _,by rw[show (0:Int).natAbs=0 from rfl,M.limbs_zero];simp⟩
 ·have h1:((n:Int)==0)=false:=by simpa using h0
  have HS:=hid (show s=Z.sign by
   refine hs.out fun h=>h0 ?_;rw[HN.out,hl.out,h,M.limbs_zero];rfl)
  clear h0;go_enter Tryz.func147,Tryz.ntmps147
  go_wp2;refine bodyPost_ret (v:=.agg #[.int .i64 s,.slice A n c]) (by simp[results,Tryz.results147,go_sem]) rfl ⟨_,rfl,?_,((Ext.alloc _ _).alloc' _)⟩;rw[HS.out];refine⟨A,n,c,rfl,?_,?_⟩
  ·rw[←hl.out];exact HM.out.up ((Ext.alloc _ _).alloc' _)
  ·rw[←hl.out];exact hk.out
theorem InZ.form {w:World}{v:Value}{Z:Int}{k:Nat}(h:InZ w v Z k): ∃s A n c,v=.agg #[.int .i64 s,.slice A n c]∧s=Z.sign∧IsN w (.slice A n c) Z.natAbs k:=by
 obtain⟨A,n,c,h1,h2,h3⟩:=h;exact⟨_,A,n,c,h1,rfl,h2,h3⟩
theorem InZ.mk {w:World}{s Z:Int}{A:Option Addr}{n c k:Nat}(hs:s=Z.sign)(h:IsN w (.slice A n c) Z.natAbs k): InZ w (.agg #[.int .i64 s,.slice A n c]) Z k:=by
 subst hs;exact⟨A,n,c,rfl,h.1,h.2⟩
theorem IsZ.form {w:World}{v:Value}{Z:Int}{k:Nat}(h:IsZ w v Z k): ∃g A n c,v=.agg #[.bool g,.slice A n c]∧g=decide (Z<0)∧IsN w (.slice A n c) Z.natAbs k:=by
 obtain⟨A,n,c,h1,h2,h3⟩:=h;exact⟨_,A,n,c,h1,rfl,h2,h3⟩
theorem IsZ.mk {w:World}{g:Bool}{Z:Int}{A:Option Addr}{n c k:Nat}(hs:g=decide (Z<0))(h:IsN w (.slice A n c) Z.natAbs k): IsZ w (.agg #[.bool g,.slice A n c]) Z k:=by
 subst hs;exact⟨A,n,c,rfl,h.1,h.2⟩
theorem Worth.kz {w w':World}{v:Value}{Z:Int}{k:Nat}(h:Worth w v Z k)(e:Keeps w w'): Worth w' v Z k:=by
 obtain⟨g,A,n,c,l,h1,h2,h3,h4⟩:=h;exact⟨g,A,n,c,l,h1,e _ _ h2,h3,h4⟩
theorem IsZ.kz {w w':World}{v:Value}{Z:Int}{k:Nat}(h:IsZ w v Z k)(e:Keeps w w'): IsZ w' v Z k:=by
 obtain⟨A,n,c,h1,h2,h3⟩:=h;exact⟨A,n,c,h1,e _ _ h2,h3⟩
theorem InZ.kz {w w':World}{v:Value}{Z:Int}{k:Nat}(h:InZ w v Z k)(e:Keeps w w'): InZ w' v Z k:=by
 obtain⟨A,n,c,h1,h2,h3⟩:=h;exact⟨A,n,c,h1,e _ _ h2,h3⟩
theorem IsN.wide {w:World}{v:Value}{N j k:Nat}(h:IsN w v N j)(hk:j≤k): IsN w v N k:=⟨h.1,Nat.le_trans h.2 hk⟩
theorem IsZ.wide {w:World}{v:Value}{Z:Int}{j k:Nat}(h:IsZ w v Z j)(hk:j≤k): IsZ w v Z k:=by
 obtain⟨A,n,c,h1,h2,h3⟩:=h;exact⟨A,n,c,h1,h2,Nat.le_trans h3 hk⟩
theorem InZ.wide {w:World}{v:Value}{Z:Int}{j k:Nat}(h:InZ w v Z j)(hk:j≤k): InZ w v Z k:=by
 obtain⟨A,n,c,h1,h2,h3⟩:=h;exact⟨A,n,c,h1,h2,Nat.le_trans h3 hk⟩
theorem InZ.to {w:World}{v:Value}{Z Y:Int}{k:Nat}(h:InZ w v Z k)(e:Z=Y): InZ w v Y k:=e▸h
theorem IsZ.to {w:World}{v:Value}{Z Y:Int}{k:Nat}(h:IsZ w v Z k)(e:Z=Y): IsZ w v Y k:=e▸h
theorem side_of (Z:Int): -1≤Z.sign∧Z.sign≤1:=by rcases M.sign_cases Z with⟨_,e⟩|⟨_,e⟩|⟨_,e⟩<;>rw[e]<;>omega
theorem clone_n {w:World}{v:Value}{N k:Nat}(hv:IsN w v N k)(hk:k≤100000000):
 Calls Tryz.prog 144 #[v] w (GivesN w N k):=by
 obtain⟨A,n,c,rfl⟩:=hv.1.slice;have R:=hid hv;clear hv;cases A with
 | none=>
  have HN:=hid (show M.limbs N=[] by
   obtain⟨A',n',c',e,hn,_,_,_,hr⟩:=R.out.1;injection e with e1 e2 e3;subst e1;rcases h:M.limbs N with _|⟨y,r⟩
   ·rfl
   ·obtain⟨ad,he,_⟩:=hr (by rw[h];simp);cases he)
  have hnil:∀(w:World),(binOp .eql 22 (.slice none n c) (.slice none 0 0)).run Tryz.prog w=.ok (.bool true) w:=fun w=>Lib.run_eql_slice_nil (P:=Tryz.prog) w 22 114 none n c 0 0 Tryz.underlying22;go_enter Tryz.func144,Tryz.ntmps144
  go_wp2;go_ret;exact⟨_,rfl,⟨by rw[HN.out];exact Num.nil _ _,R.out.2⟩,Ext.refl _⟩
 | some ad=>
  have hnil:∀(w:World),(binOp .eql 22 (.slice (some ad) n c) (.slice none 0 0)).run Tryz.prog w=.ok (.bool false) w:=fun w=>Lib.run_eql_slice_nil (P:=Tryz.prog) w 22 114 (some ad) n c 0 0 Tryz.underlying22;go_enter Tryz.func144,Tryz.ntmps144
  go_wp2_with (at_builtin;refine wpList_appN rfl (.tmp 5) (.tmp 6) rfl w.heap.size _ [] rfl (Own.none_ w) _ (M.limbs N) rfl (R.out.1.up (Ext.alloc w _)) (by have:=R.out.2;simp;omega) (by simp) ?_)
  intro v' w' hown hgrow;have HO:=hid hown;have HE:=hid (show Ext w w' from(Ext.alloc w (.cells #[] 114)).below.trans ((Own.none_ w).below hgrow (Nat.le_refl _) (by simp)));clear hown hgrow;go_wp2;go_ret;exact⟨_,rfl,⟨HO.out.num,R.out.2⟩,HE.out⟩
theorem cmp_Int (a b:Int)(w:World): Calls Tryz.prog 249 #[.int .i64 a,.int .i64 b] w fun e w'=>e=.returned (.int .i64 (M.zcmp a b))∧w=w':=by
 go_enter Tryz.func249,Tryz.ntmps249
 go_wp2_with (go_at_call 260;refine(isNaN_int _ _).mono ?_;rintro e w' ⟨rfl,rfl⟩)
 ·go_ret;exact⟨ret_int (M.zcmp_lt (by assumption)).symm,rfl⟩
 ·go_ret;exact⟨ret_int (M.zcmp_gt (by assumption)).symm,rfl⟩
 ·go_ret;exact⟨ret_int (M.zcmp_eq.2 (by omega)).symm,rfl⟩
theorem wIs_f (w:World)(g:Bool)(A:Option Addr)(n c:Nat)(l:List Nat)(hm:Num w w.heap.size (.slice A n c) l)(hI:M.isNat l=false):
 Calls Tryz.prog 146 #[.agg #[.bool g,.slice A n c]] w (GivesB w false):=by
 have HI:=hid hI;have HM:=hid hm;clear hI hm;go_enter Tryz.func146,Tryz.ntmps146
 go_wp2_with fail
 refine(isNat_l (HM.out.up (Ext.alloc w _)) HI.out).mono ?_;rintro e wq ⟨rfl,rfl⟩;go_wp2;go_ret;exact⟨rfl,Ext.alloc _ _⟩
theorem wIs_tzt (w:World)(A:Option Addr)(n c:Nat)(l:List Nat)(hm:Num w w.heap.size (.slice A n c) l)(hI:M.isNat l=true)(hn:n=0):
 Calls Tryz.prog 146 #[.agg #[.bool true,.slice A n c]] w (GivesB w false):=by
 have HI:=hid hI;have HM:=hid hm;clear hI hm;subst hn;go_enter Tryz.func146,Tryz.ntmps146
 go_wp2_with fail
 refine(isNat_l (HM.out.up (Ext.alloc w _)) HI.out).mono ?_;rintro e wq ⟨rfl,rfl⟩;go_wp2;go_ret;exact⟨rfl,Ext.alloc _ _⟩
theorem wIs_tzf (w:World)(A:Option Addr)(n c:Nat)(l:List Nat)(hm:Num w w.heap.size (.slice A n c) l)(hI:M.isNat l=true)(hn:n=0):
 Calls Tryz.prog 146 #[.agg #[.bool false,.slice A n c]] w (GivesB w true):=by
 have HI:=hid hI;have HM:=hid hm;clear hI hm;subst hn;go_enter Tryz.func146,Tryz.ntmps146
 go_wp2_with fail
 refine(isNat_l (HM.out.up (Ext.alloc w _)) HI.out).mono ?_;rintro e wq ⟨rfl,rfl⟩;go_wp2;go_ret;exact⟨rfl,Ext.alloc _ _⟩
theorem wIs_tpt (w:World)(A:Option Addr)(n c:Nat)(l:List Nat)(hm:Num w w.heap.size (.slice A n c) l)(hI:M.isNat l=true)(hn:0<n):
 Calls Tryz.prog 146 #[.agg #[.bool true,.slice A n c]] w (GivesB w true):=by
 have HI:=hid hI;have HM:=hid hm;clear hI hm;have hn1:decide (0<n)=true:=by simpa using hn
 go_enter Tryz.func146,Tryz.ntmps146
 go_wp2_with fail
 refine(isNat_l (HM.out.up (Ext.alloc w _)) HI.out).mono ?_;rintro e wq ⟨rfl,rfl⟩;go_wp2;go_ret;exact⟨rfl,Ext.alloc _ _⟩
theorem wIs_tpf (w:World)(A:Option Addr)(n c:Nat)(l:List Nat)(hm:Num w w.heap.size (.slice A n c) l)(hI:M.isNat l=true)(hn:0<n):
 Calls Tryz.prog 146 #[.agg #[.bool false,.slice A n c]] w (GivesB w true):=by
 have HI:=hid hI;have HM:=hid hm;clear hI hm;have hn1:decide (0<n)=true:=by simpa using hn
 go_enter Tryz.func146,Tryz.ntmps146
 go_wp2_with fail
 refine(isNat_l (HM.out.up (Ext.alloc w _)) HI.out).mono ?_;rintro e wq ⟨rfl,rfl⟩;go_wp2;go_ret;exact⟨rfl,Ext.alloc _ _⟩
theorem wIs_any {w:World}{g:Bool}{A:Option Addr}{n c:Nat}{l:List Nat}(hm:Num w w.heap.size (.slice A n c) l){b:Bool}(hb:M.isZ g l=b):
 Calls Tryz.prog 146 #[.agg #[.bool g,.slice A n c]] w (GivesB w b):=by
 have hn:n=l.length:=by obtain⟨_,_,_,e,h,_⟩:=hm;injection e with _ e2;rw[e2,h]
 subst hb;cases hI:M.isNat l with
 | false=>
  have:M.isZ g l=false:=by unfold M.isZ;rw[hI];rfl
  rw[this];exact wIs_f w g A n c l hm hI
 | true=>
  have e:=M.isZ_empty (g:=g) hI;rw[e];rcases Nat.eq_zero_or_pos n with h0|h0
  ·have:l=[]:=List.eq_nil_of_length_eq_zero (by omega);subst this;cases g
   ·exact wIs_tzf w A n c _ hm hI h0
   ·exact wIs_tzt w A n c _ hm hI h0
  ·have:l.isEmpty=false:=by cases l<;>simp_all
   rw[this];cases g
   ·exact wIs_tpf w A n c _ hm hI h0
   ·exact wIs_tpt w A n c _ hm hI h0
set_option maxHeartbeats 1000000 in
theorem read_no {w:World}{g:Bool}{A:Option Addr}{n c k:Nat}{l:List Nat}(hm:Num w w.heap.size (.slice A n c) l)(hI:M.isZ g l=false)(hk:l.length≤k):
 Calls Tryz.prog 112 #[.agg #[.bool g,.slice A n c]] w (GivesI w (M.zv g l) k):=by
 have R:=hid hm;have HI:=hid hI;clear hm hI hk;go_enter Tryz.func112,Tryz.ntmps112
 go_upto_region 1 with (fail)
 obtain⟨E,B1,B2⟩:=open2 w #[.bool g,.slice A n c] 24 #[.int .i64 0,.slice none 0 0] 138;replace R:=hid (R.out.up E.out);refine wp_region_S [(0,0),(1,1),(2,0),(3,0)] fun wd hb=>?_;replace E:=hid (E.out.trans hb);replace B1:=hid (B1.out.up hb);replace B2:=hid (B2.out.up hb);replace R:=hid (R.out.up hb);clear hb;refine WE.q 4 (.agg #[.bool g,.slice A n c]) rfl (fun w' hk=>by have c0:=(B1.out.up hk).k 0;have c1:=(B1.out.up hk).k 1;go_simp) ?_;simp only[pX];refine WE.call (d:=some 5) rfl rfl (by rfl) (f:=146) (args:=#[(.agg #[.bool g,.slice A n c])]) (by go_simp) ?_;refine(wIs_any R.out HI.out).mono ?_;rintro e wn ⟨rfl,hb⟩;refine⟨_,rfl,hb,?_⟩;replace E:=hid (E.out.trans hb);replace B2:=hid (B2.out.up hb);clear hb;refine WE.p 6 (.bool true) ?_;refine WE.p 3 (.bool true) ?_;simp only[pX];refine WE.done ?_;go_upto_region 2 with (fail)
 refine wp_region_S [(0,0),(1,4)] fun wd hb=>?_;replace E:=hid (E.out.trans hb);replace B2:=hid (B2.out.up hb);clear hb;refine WE.p 7 (.agg #[.int .i64 0,.slice none 0 0]) ?_;simp only[pX];refine WE.store2 (g:=(w.heap.size+1)) (x:=.int .i64 0) (y:=.slice none 0 0) (t:=138) rfl rfl (by rfl) (fun w hb=>?_) B2.out (by rfl) fun ws hk hs=>?_
 ·have c0:=hb.k 0;have f0:=hb.free 0;have c1:=hb.k 1;have f1:=hb.free 1;go_simp
 intro hbx;replace E:=hid (E.out.keptG hk (by simp));replace B2:=hid hbx;clear hk hs hbx;refine WE.done ?_;have r0:=B2.out.cell (o:=0) (v:=.int .i64 0) rfl;have r1:=B2.out.cell (o:=1) (v:=.slice none 0 0) rfl;go_wp2;exact bodyPost_ret (v:=.agg #[.int .i64 0,.slice none 0 0]) (by simp[results,Tryz.results112,go_sem,r0,r1]) rfl ⟨_,rfl,InZ.mk (Z:=M.zv g l) (by rw[M.zv_off HI.out];rfl) (by rw[M.zv_off HI.out];exact⟨by rw[show (0:Int).natAbs=0 from rfl,M.limbs_zero];exact Num.nil _ _,by rw[show (0:Int).natAbs=0 from rfl,M.limbs_zero];simp⟩),E.out⟩
set_option maxHeartbeats 1000000 in
theorem read_neg {w:World}{A:Option Addr}{n c k:Nat}{l:List Nat}(hm:Num w w.heap.size (.slice A n c) l)(hI:M.isZ true l=true)(hk:l.length≤k):
 Calls Tryz.prog 112 #[.agg #[.bool true,.slice A n c]] w (GivesI w (M.zv true l) k):=by
 have R:=hid hm;have HI:=hid hI;have HK:=hid hk;clear hm hI hk;go_enter Tryz.func112,Tryz.ntmps112
 go_upto_region 1 with (fail)
 obtain⟨E,B1,B2⟩:=open2 w #[.bool true,.slice A n c] 24 #[.int .i64 0,.slice none 0 0] 138;replace R:=hid (R.out.up E.out);refine wp_region_S [(0,0),(1,1),(2,0),(3,0)] fun wd hb=>?_;replace E:=hid (E.out.trans hb);replace B1:=hid (B1.out.up hb);replace B2:=hid (B2.out.up hb);replace R:=hid (R.out.up hb);clear hb;refine WE.q 4 (.agg #[.bool true,.slice A n c]) rfl (fun w' hk=>by have c0:=(B1.out.up hk).k 0;have c1:=(B1.out.up hk).k 1;go_simp) ?_;simp only[pX];refine WE.call (d:=some 5) rfl rfl (by rfl) (f:=146) (args:=#[(.agg #[.bool true,.slice A n c])]) (by go_simp) ?_;refine(wIs_any R.out HI.out).mono ?_;rintro e wn ⟨rfl,hb⟩;refine⟨_,rfl,hb,?_⟩;replace E:=hid (E.out.trans hb);replace B1:=hid (B1.out.up hb);replace B2:=hid (B2.out.up hb);replace R:=hid (R.out.up hb);clear hb;refine WE.p 6 (.bool false) ?_;refine WE.p 3 (.bool false) ?_;simp only[pX];refine WE.done ?_;go_upto_region 3 with (fail)
 refine wp_region_S [(0,0),(1,0),(2,0)] fun wd hb=>?_;replace E:=hid (E.out.trans hb);replace B1:=hid (B1.out.up hb);replace B2:=hid (B2.out.up hb);replace R:=hid (R.out.up hb);clear hb;refine WE.p 9 (.pointer (some ⟨(w.heap.size),0,none⟩)) ?_;refine WE.q 10 (.bool true) rfl (fun w' hk=>by have c0:=(B1.out.up hk).k 0;go_simp) ?_;refine WE.p 8 (.bool true) ?_;simp only[pX];refine WE.done ?_;go_upto_region 4 with (fail)
 refine wp_region_S [(0,0),(1,0),(2,0),(3,1),(4,4)] fun wd hb=>?_;replace E:=hid (E.out.trans hb);replace B1:=hid (B1.out.up hb);replace B2:=hid (B2.out.up hb);replace R:=hid (R.out.up hb);clear hb;refine WE.p 11 (.agg #[.int .i64 (-1)]) ?_;refine WE.p 12 (.pointer (some ⟨(w.heap.size),1,none⟩)) ?_;refine WE.q 13 (.slice A n c) rfl (fun w' hk=>by have c1:=(B1.out.up hk).k 1;go_simp) ?_;simp only[pX];refine WE.call (d:=some 14) rfl rfl (by rfl) (f:=147) (args:=#[(.agg #[.int .i64 (-1)]),(.slice A n c)]) (by go_simp) ?_;refine(signed_any _ (-1) _ _ _ R.out (Z:=M.zv true l) (k:=k) (hid (M.limbs_zv HI.out).symm) (hid fun h=>by rw[M.zv_neg HI.out];exact(Int.sign_eq_neg_one_of_neg (by have:=M.isZ_pos HI.out;omega)).symm) HK).mono ?_;rintro e wn ⟨vx,rfl,hx,hb⟩;obtain⟨s1,A1,n1,c1,rfl,hs1,hr1⟩:=hx.form;clear hx;refine⟨_,rfl,hb,?_⟩;replace E:=hid (E.out.trans hb);replace B2:=hid (B2.out.up hb);have HS1:=hid hs1;have R1:=hid hr1;clear hb hs1 hr1;simp only[pX];refine WE.store2 (g:=(w.heap.size+1)) (x:=.int .i64 s1) (y:=.slice A1 n1 c1) (t:=138) rfl rfl (by rfl) (fun w hb=>?_) B2.out (by rfl) fun ws hk hs=>?_
 ·have c0:=hb.k 0;have f0:=hb.free 0;have c1:=hb.k 1;have f1:=hb.free 1;go_simp
 intro hbx;replace E:=hid (E.out.keptG hk (by simp));replace B2:=hid hbx;replace R1:=hid (R1.out.kz hs);clear hk hs hbx;refine WE.done ?_;have r0:=B2.out.cell (o:=0) (v:=.int .i64 s1) rfl;have r1:=B2.out.cell (o:=1) (v:=.slice A1 n1 c1) rfl;go_wp2;exact bodyPost_ret (v:=.agg #[.int .i64 s1,.slice A1 n1 c1]) (by simp[results,Tryz.results112,go_sem,r0,r1]) rfl ⟨_,rfl,InZ.mk HS1.out R1.out,E.out⟩
set_option maxHeartbeats 1000000 in
theorem read_pos {w:World}{A:Option Addr}{n c k:Nat}{l:List Nat}(hm:Num w w.heap.size (.slice A n c) l)(hI:M.isZ false l=true)(hk:l.length≤k):
 Calls Tryz.prog 112 #[.agg #[.bool false,.slice A n c]] w (GivesI w (M.zv false l) k):=by
 have R:=hid hm;have HI:=hid hI;have HK:=hid hk;clear hm hI hk;go_enter Tryz.func112,Tryz.ntmps112
 go_upto_region 1 with (fail)
 obtain⟨E,B1,B2⟩:=open2 w #[.bool false,.slice A n c] 24 #[.int .i64 0,.slice none 0 0] 138;replace R:=hid (R.out.up E.out);refine wp_region_S [(0,0),(1,1),(2,0),(3,0)] fun wd hb=>?_;replace E:=hid (E.out.trans hb);replace B1:=hid (B1.out.up hb);replace B2:=hid (B2.out.up hb);replace R:=hid (R.out.up hb);clear hb;refine WE.q 4 (.agg #[.bool false,.slice A n c]) rfl (fun w' hk=>by have c0:=(B1.out.up hk).k 0;have c1:=(B1.out.up hk).k 1;go_simp) ?_;simp only[pX];refine WE.call (d:=some 5) rfl rfl (by rfl) (f:=146) (args:=#[(.agg #[.bool false,.slice A n c])]) (by go_simp) ?_;refine(wIs_any R.out HI.out).mono ?_;rintro e wn ⟨rfl,hb⟩;refine⟨_,rfl,hb,?_⟩;replace E:=hid (E.out.trans hb);replace B1:=hid (B1.out.up hb);replace B2:=hid (B2.out.up hb);replace R:=hid (R.out.up hb);clear hb;refine WE.p 6 (.bool false) ?_;refine WE.p 3 (.bool false) ?_;simp only[pX];refine WE.done ?_;go_upto_region 3 with (fail)
 refine wp_region_S [(0,0),(1,0),(2,0)] fun wd hb=>?_;replace E:=hid (E.out.trans hb);replace B1:=hid (B1.out.up hb);replace B2:=hid (B2.out.up hb);replace R:=hid (R.out.up hb);clear hb;refine WE.p 9 (.pointer (some ⟨(w.heap.size),0,none⟩)) ?_;refine WE.q 10 (.bool false) rfl (fun w' hk=>by have c0:=(B1.out.up hk).k 0;go_simp) ?_;refine WE.p 8 (.bool false) ?_;simp only[pX];refine WE.done ?_;go_upto_region 5 with (fail)
 refine wp_region_S [(0,0),(1,0),(2,0),(3,1),(4,4)] fun wd hb=>?_;replace E:=hid (E.out.trans hb);replace B1:=hid (B1.out.up hb);replace B2:=hid (B2.out.up hb);replace R:=hid (R.out.up hb);clear hb;refine WE.p 15 (.agg #[.int .i64 (1)]) ?_;refine WE.p 16 (.pointer (some ⟨(w.heap.size),1,none⟩)) ?_;refine WE.q 17 (.slice A n c) rfl (fun w' hk=>by have c1:=(B1.out.up hk).k 1;go_simp) ?_;simp only[pX];refine WE.call (d:=some 18) rfl rfl (by rfl) (f:=147) (args:=#[(.agg #[.int .i64 (1)]),(.slice A n c)]) (by go_simp) ?_;refine(signed_any _ 1 _ _ _ R.out (Z:=M.zv false l) (k:=k) (hid (M.limbs_zv HI.out).symm) (hid fun h=>by rw[M.zv_pos HI.out] at h ⊢;exact(Int.sign_eq_one_of_pos (by omega)).symm) HK).mono ?_;rintro e wn ⟨vx,rfl,hx,hb⟩;obtain⟨s1,A1,n1,c1,rfl,hs1,hr1⟩:=hx.form;clear hx;refine⟨_,rfl,hb,?_⟩;replace E:=hid (E.out.trans hb);replace B2:=hid (B2.out.up hb);have HS1:=hid hs1;have R1:=hid hr1;clear hb hs1 hr1;simp only[pX];refine WE.store2 (g:=(w.heap.size+1)) (x:=.int .i64 s1) (y:=.slice A1 n1 c1) (t:=138) rfl rfl (by rfl) (fun w hb=>?_) B2.out (by rfl) fun ws hk hs=>?_
 ·have c0:=hb.k 0;have f0:=hb.free 0;have c1:=hb.k 1;have f1:=hb.free 1;go_simp
 intro hbx;replace E:=hid (E.out.keptG hk (by simp));replace B2:=hid hbx;replace R1:=hid (R1.out.kz hs);clear hk hs hbx;refine WE.done ?_;have r0:=B2.out.cell (o:=0) (v:=.int .i64 s1) rfl;have r1:=B2.out.cell (o:=1) (v:=.slice A1 n1 c1) rfl;go_wp2;exact bodyPost_ret (v:=.agg #[.int .i64 s1,.slice A1 n1 c1]) (by simp[results,Tryz.results112,go_sem,r0,r1]) rfl ⟨_,rfl,InZ.mk HS1.out R1.out,E.out⟩
theorem read_w {w:World}{v:Value}{Z:Int}{k:Nat}(hv:Worth w v Z k): Calls Tryz.prog 112 #[v] w (GivesI w Z k):=by
 obtain⟨g,A,n,c,l,rfl,hm,hk,rfl⟩:=hv;cases hI:M.isZ g l with
 | false=>exact read_no hm hI hk
 | true=>
  cases g
  ·exact read_pos hm hI hk
  ·exact read_neg hm hI hk
set_option maxHeartbeats 1000000 in
theorem told_i {w:World}{v:Value}{Z:Int}{k:Nat}(hv:InZ w v Z k):
 Calls Tryz.prog 145 #[v] w (GivesZ w Z k):=by
 obtain⟨s,A,n,c,rfl,hs,hm⟩:=hv.form;have HS:=hid hs;have R:=hid hm;clear hs hm hv;go_enter Tryz.func145,Tryz.ntmps145
 go_wp2;obtain⟨E,B1,B2⟩:=open2 w #[.int .i64 s,.slice A n c] 138 #[.bool false,.slice none 0 0] 24;replace R:=hid (R.out.up E.out);refine wp_region_D [(0,0),(1,0),(3,0),(4,0),(2,1),(5,0),(6,4)] fun wd hb=>?_;replace E:=hid (E.out.trans hb);replace B1:=hid (B1.out.up hb);replace B2:=hid (B2.out.up hb);replace R:=hid (R.out.up hb);clear hb;refine WE.p 3 (.pointer (some ⟨(w.heap.size),0,none⟩)) ?_;refine WE.q 4 (.agg #[.int .i64 s]) rfl (fun w' hk=>by have c0:=(B1.out.up hk).k 0;go_simp) ?_;refine WE.p 6 (.pointer (some ⟨(w.heap.size),1,none⟩)) ?_;refine WE.q 7 (.slice A n c) rfl (fun w' hk=>by have c1:=(B1.out.up hk).k 1;go_simp) ?_;simp only[pX];refine WE.call (d:=some 5) rfl rfl (by rfl) (f:=183) (args:=#[(.agg #[.int .i64 s])]) (by go_simp) ?_;refine(below_s _ _).mono ?_;rintro e wn ⟨rfl,hb⟩;refine⟨_,rfl,hb,?_⟩;replace E:=hid (E.out.trans hb);replace B2:=hid (B2.out.up hb);replace R:=hid (R.out.up hb);clear hb;refine WE.p 8 (.agg #[.bool (decide (s<0)),.slice A n c]) ?_;simp only[pX];refine WE.store2 (g:=(w.heap.size+1)) (x:=.bool (decide (s<0))) (y:=.slice A n c) (t:=24) rfl rfl (by rfl) (fun w hb=>?_) B2.out (by rfl) fun ws hk hs=>?_
 ·have c0:=hb.k 0;have f0:=hb.free 0;have c1:=hb.k 1;have f1:=hb.free 1;go_simp
 intro hbx;replace E:=hid (E.out.keptG hk (by simp));replace B2:=hid hbx;replace R:=hid (R.out.kz hs);clear hk hs hbx;refine WE.done ?_;have r0:=B2.out.cell (o:=0) (v:=.bool (decide (s<0))) rfl;have r1:=B2.out.cell (o:=1) (v:=.slice A n c) rfl;go_wp2;exact bodyPost_ret (v:=.agg #[.bool (decide (s<0)),.slice A n c]) (by simp[results,Tryz.results145,go_sem,r0,r1]) rfl ⟨_,rfl,IsZ.mk (by rw[HS.out];exact decide_eq_decide.2 (M.sign_neg Z)) R.out,E.out⟩
set_option maxHeartbeats 1000000 in
theorem absolute_i {w:World}{v:Value}{Z:Int}{k:Nat}(hv:InZ w v Z k):
 Calls Tryz.prog 113 #[v] w (GivesI w (Z.natAbs:Int) k):=by
 obtain⟨s,A,n,c,rfl,hs,hm⟩:=hv.form;have HS:=hid hs;have R:=hid hm;clear hs hm hv;have HD:=hid (show -1≤s∧s≤1 by rw[HS.out];exact side_of Z);go_enter Tryz.func113,Tryz.ntmps113
 go_upto_region 1 with (fail)
 obtain⟨E,B1,B2⟩:=open2 w #[.int .i64 s,.slice A n c] 138 #[.int .i64 0,.slice none 0 0] 138;replace R:=hid (R.out.up E.out);refine wp_region_D [(0,0),(1,0),(2,0),(3,0),(5,0),(6,0),(4,1),(7,0),(8,4)] fun wd hb=>?_;replace E:=hid (E.out.trans hb);replace B1:=hid (B1.out.up hb);replace B2:=hid (B2.out.up hb);replace R:=hid (R.out.up hb);clear hb;refine WE.p 3 (.pointer (some ⟨(w.heap.size),0,none⟩)) ?_;refine WE.q 4 (.agg #[.int .i64 s]) rfl (fun w' hk=>by have c0:=(B1.out.up hk).k 0;go_simp) ?_;refine WE.p 5 (.pointer (some ⟨(w.heap.size),0,none⟩)) ?_;refine WE.q 6 (.agg #[.int .i64 s]) rfl (fun w' hk=>by have c0:=(B1.out.up hk).k 0;go_simp) ?_;refine WE.p 8 (.pointer (some ⟨(w.heap.size),1,none⟩)) ?_;refine WE.q 9 (.slice A n c) rfl (fun w' hk=>by have c1:=(B1.out.up hk).k 1;go_simp) ?_;simp only[pX];refine WE.call (d:=some 7) rfl rfl (by rfl) (f:=148) (args:=#[(.agg #[.int .i64 s]),(.agg #[.int .i64 s])]) (by go_simp) ?_;refine(times_s _ s s HD.out.1 HD.out.2 HD.out.1 HD.out.2).mono ?_;rintro e wn ⟨rfl,hb⟩;refine⟨_,rfl,hb,?_⟩;replace E:=hid (E.out.trans hb);replace B2:=hid (B2.out.up hb);replace R:=hid (R.out.up hb);clear hb;refine WE.p 10 (.agg #[.int .i64 (s*s),.slice A n c]) ?_;simp only[pX];refine WE.store2 (g:=(w.heap.size+1)) (x:=.int .i64 (s*s)) (y:=.slice A n c) (t:=138) rfl rfl (by rfl) (fun w hb=>?_) B2.out (by rfl) fun ws hk hs=>?_
 ·have c0:=hb.k 0;have f0:=hb.free 0;have c1:=hb.k 1;have f1:=hb.free 1;go_simp
 intro hbx;replace E:=hid (E.out.keptG hk (by simp));replace B2:=hid hbx;replace R:=hid (R.out.kz hs);clear hk hs hbx;refine WE.done ?_;have r0:=B2.out.cell (o:=0) (v:=.int .i64 (s*s)) rfl;have r1:=B2.out.cell (o:=1) (v:=.slice A n c) rfl;go_wp2;exact bodyPost_ret (v:=.agg #[.int .i64 (s*s),.slice A n c]) (by simp[results,Tryz.results113,go_sem,r0,r1]) rfl ⟨_,rfl,InZ.mk (by rw[HS.out];exact M.sign_sq Z) (by rw[Int.natAbs_natCast];exact R.out),E.out⟩
set_option maxHeartbeats 1000000 in
theorem compare_unlike {w:World}{u v:Value}{Z Y:Int}{j k:Nat}(hu:InZ w u Z j)(hv:InZ w v Y k)(hl:Z.sign≠Y.sign):
 Calls Tryz.prog 235 #[u,v] w (fun e w'=>e=.returned (.int .i64 (M.zcmp Z Y))∧Ext w w'):=by
 obtain⟨s,A,n,c,rfl,hs,hm⟩:=hu.form;obtain⟨t,A',n',c',rfl,ht,hm'⟩:=hv.form;have HS:=hid hs;have HT:=hid ht;clear hs ht hm hm' hu hv;have HL:=hid (show Z.sign≠Y.sign from hl);clear hl;have hne:(s != t)=true:=by rw[HS.out,HT.out];simpa using HL.out
 go_enter Tryz.func235,Tryz.ntmps235
 go_upto_region 1 with (fail)
 obtain⟨E,B1,B2⟩:=open2 w #[.int .i64 s,.slice A n c] 138 #[.int .i64 t,.slice A' n' c'] 138;refine wp_region_S [(0,0),(1,0),(2,0),(3,0),(4,0),(5,0),(6,0)] fun wd hb=>?_;replace E:=hid (E.out.trans hb);replace B1:=hid (B1.out.up hb);replace B2:=hid (B2.out.up hb);clear hb;refine WE.p 5 (.pointer (some ⟨(w.heap.size),0,none⟩)) ?_;refine WE.p 6 (.pointer (some ⟨(w.heap.size),0,none⟩)) ?_;refine WE.q 7 (.int .i64 s) rfl (fun w' hk=>by have c0:=(B1.out.up hk).k 0;go_simp) ?_;refine WE.p 8 (.pointer (some ⟨(w.heap.size+1),0,none⟩)) ?_;refine WE.p 9 (.pointer (some ⟨(w.heap.size+1),0,none⟩)) ?_;refine WE.q 10 (.int .i64 t) rfl (fun w' hk=>by have c0:=(B2.out.up hk).k 0;go_simp) ?_;simp only[pX];refine WE.p 11 (.bool true) ?_;simp only[pX];refine WE.done ?_;go_upto_region 2 with (fail)
 refine wp_region_S [(0,0),(1,0),(2,0),(3,0),(4,0),(5,0),(6,1),(7,0)] fun wd hb=>?_;replace E:=hid (E.out.trans hb);replace B1:=hid (B1.out.up hb);replace B2:=hid (B2.out.up hb);clear hb;refine WE.p 12 (.pointer (some ⟨(w.heap.size),0,none⟩)) ?_;refine WE.p 13 (.pointer (some ⟨(w.heap.size),0,none⟩)) ?_;refine WE.q 14 (.int .i64 s) rfl (fun w' hk=>by have c0:=(B1.out.up hk).k 0;go_simp) ?_;refine WE.p 15 (.pointer (some ⟨(w.heap.size+1),0,none⟩)) ?_;refine WE.p 16 (.pointer (some ⟨(w.heap.size+1),0,none⟩)) ?_;refine WE.q 17 (.int .i64 t) rfl (fun w' hk=>by have c0:=(B2.out.up hk).k 0;go_simp) ?_;simp only[pX];refine WE.call (d:=some 18) rfl rfl (by rfl) (f:=249) (args:=#[(.int .i64 s),(.int .i64 t)]) (by go_simp) ?_;refine(cmp_Int s t _).mono ?_;rintro e wq ⟨rfl,rfl⟩;refine⟨_,rfl,Ext.refl _,?_⟩;refine WE.p 4 (.int .i64 (M.zcmp s t)) ?_;simp only[pX];refine WE.done ?_;go_wp2;go_ret;exact⟨ret_int (by rw[M.zcmp_unlike HL.out,HS.out,HT.out]),E.out⟩
set_option maxHeartbeats 1000000 in
theorem compare_like {w:World}{u v:Value}{Z Y:Int}{j k:Nat}(hu:InZ w u Z j)(hv:InZ w v Y k)(hl:Z.sign=Y.sign):
 Calls Tryz.prog 235 #[u,v] w (fun e w'=>e=.returned (.int .i64 (M.zcmp Z Y))∧Ext w w'):=by
 obtain⟨s,A,n,c,rfl,hs,hm⟩:=hu.form;obtain⟨t,A',n',c',rfl,ht,hm'⟩:=hv.form;have HS:=hid hs;have HT:=hid ht;have R:=hid hm;have R':=hid hm';clear hs ht hm hm' hu hv;have HD:=hid (show -1≤s∧s≤1 by rw[HS.out];exact side_of Z);have HL:=hid (show Z.sign=Y.sign from hl);clear hl;have hne:(s != t)=false:=by rw[HS.out,HT.out,HL.out];simp
 obtain⟨z,hz⟩:∃z:Int,z=M.cmp Z.natAbs Y.natAbs:=⟨_,rfl⟩;have HZ:=hid hz;have hz1:-1≤z∧z≤1:=by rw[hz];exact M.cmp_range _ _
 have hw:IntKind.i64.wrap (s*z)=s*z:=side_mul HD.out.1 HD.out.2 hz1.1 hz1.2;clear hz hz1;go_enter Tryz.func235,Tryz.ntmps235
 go_upto_region 1 with (fail)
 obtain⟨E,B1,B2⟩:=open2 w #[.int .i64 s,.slice A n c] 138 #[.int .i64 t,.slice A' n' c'] 138;replace R:=hid (R.out.up E.out);replace R':=hid (R'.out.up E.out);refine wp_region_S [(0,0),(1,0),(2,0),(3,0),(4,0),(5,0),(6,0)] fun wd hb=>?_;replace E:=hid (E.out.trans hb);replace B1:=hid (B1.out.up hb);replace B2:=hid (B2.out.up hb);replace R:=hid (R.out.up hb);replace R':=hid (R'.out.up hb);clear hb;refine WE.p 5 (.pointer (some ⟨(w.heap.size),0,none⟩)) ?_;refine WE.p 6 (.pointer (some ⟨(w.heap.size),0,none⟩)) ?_;refine WE.q 7 (.int .i64 s) rfl (fun w' hk=>by have c0:=(B1.out.up hk).k 0;go_simp) ?_;refine WE.p 8 (.pointer (some ⟨(w.heap.size+1),0,none⟩)) ?_;refine WE.p 9 (.pointer (some ⟨(w.heap.size+1),0,none⟩)) ?_;refine WE.q 10 (.int .i64 t) rfl (fun w' hk=>by have c0:=(B2.out.up hk).k 0;go_simp) ?_;simp only[pX];refine WE.p 11 (.bool false) ?_;simp only[pX];refine WE.done ?_;go_upto_region 3 with (fail)
 refine wp_region_D [(0,0),(1,0),(2,0),(3,0),(4,0),(5,0),(6,0),(7,1),(8,0),(9,0)] fun wd hb=>?_;replace E:=hid (E.out.trans hb);replace B1:=hid (B1.out.up hb);replace B2:=hid (B2.out.up hb);replace R:=hid (R.out.up hb);replace R':=hid (R'.out.up hb);clear hb;refine WE.p 19 (.pointer (some ⟨(w.heap.size),0,none⟩)) ?_;refine WE.p 20 (.pointer (some ⟨(w.heap.size),0,none⟩)) ?_;refine WE.q 21 (.int .i64 s) rfl (fun w' hk=>by have c0:=(B1.out.up hk).k 0;go_simp) ?_;refine WE.p 22 (.pointer (some ⟨(w.heap.size),1,none⟩)) ?_;refine WE.q 23 (.slice A n c) rfl (fun w' hk=>by have c1:=(B1.out.up hk).k 1;go_simp) ?_;refine WE.p 24 (.pointer (some ⟨(w.heap.size+1),1,none⟩)) ?_;simp only[pX];refine WE.q 25 (.slice A' n' c') rfl (fun w' hk=>by have c1:=(B2.out.up hk).k 1;go_simp) ?_;simp only[pX];refine WE.call (d:=some 26) rfl rfl (by rfl) (f:=241) (args:=#[(.slice A n c),(.slice A' n' c')]) (by go_simp) ?_;refine(cmp_n R.out R'.out HZ.out.symm).mono ?_;rintro e wn ⟨rfl,hb⟩;refine⟨_,rfl,hb,?_⟩;replace E:=hid (E.out.trans hb);clear hb;refine WE.p 27 (.int .i64 (s*z)) ?_;refine WE.p 4 (.int .i64 (s*z)) ?_;simp only[pX];refine WE.done ?_;go_wp2;go_ret;exact⟨ret_int (by rw[M.zcmp_sides HL.out,HS.out,HZ.out]),E.out⟩
theorem compare_i {w:World}{u v:Value}{Z Y:Int}{j k:Nat}(hu:InZ w u Z j)(hv:InZ w v Y k): Calls Tryz.prog 235 #[u,v] w (fun e w'=>e=.returned (.int .i64 (M.zcmp Z Y))∧Ext w w'):=by
 by_cases h:Z.sign=Y.sign
 ·exact compare_like hu hv h
 ·exact compare_unlike hu hv h
set_option maxHeartbeats 1000000 in
theorem copied_i {w:World}{v:Value}{Z:Int}{k:Nat}(hv:InZ w v Z k)(hk:k≤100000000):
 Calls Tryz.prog 111 #[v] w (GivesZ w Z k):=by
 obtain⟨s,A,n,c,rfl,hs,hm⟩:=hv.form;have HS:=hid hs;have R:=hid hm;clear hs hm hv;have HK:=hid hk;clear hk;go_enter Tryz.func111,Tryz.ntmps111
 go_upto_region 1 with (fail)
 obtain⟨E,B1,B2⟩:=open2 w #[.int .i64 s,.slice A n c] 138 #[.bool false,.slice none 0 0] 24;replace R:=hid (R.out.up E.out);refine wp_region_S [(0,0),(1,0),(2,1),(3,0),(4,4)] fun wd hb=>?_;replace E:=hid (E.out.trans hb);replace B1:=hid (B1.out.up hb);replace B2:=hid (B2.out.up hb);replace R:=hid (R.out.up hb);clear hb;refine WE.p 3 (.pointer (some ⟨(w.heap.size),1,none⟩)) ?_;refine WE.q 4 (.slice A n c) rfl (fun w' hk=>by have c1:=(B1.out.up hk).k 1;go_simp) ?_;simp only[pX];refine WE.call (d:=some 5) rfl rfl (by rfl) (f:=144) (args:=#[(.slice A n c)]) (by go_simp) ?_;refine(clone_n R.out HK.out).mono ?_;rintro e wn ⟨vx,rfl,hx,hb⟩;obtain⟨A1,n1,c1,rfl⟩:=hx.1.slice;refine⟨_,rfl,hb,?_⟩;replace E:=hid (E.out.trans hb);replace B1:=hid (B1.out.up hb);replace B2:=hid (B2.out.up hb);have R1:=hid hx;clear hb hx;refine WE.p 6 (.pointer (some ⟨(w.heap.size),1,none⟩)) ?_;simp only[pX];refine WE.storeAt (g:=(w.heap.size)) (off:=1) (cs':=#[.int .i64 s,.slice A1 n1 c1]) (y:=.slice A1 n1 c1) (t:=138) rfl rfl (by rfl) (fun w hb=>?_) B1.out (by rfl) rfl fun ws hk hs hbx=>?_
 ·have c1:=hb.k 1;have f1:=hb.free 1;go_simp
 replace E:=hid (E.out.keptG hk (by simp));replace B1:=hid hbx;replace B2:=hid (B2.out.kept hk (by simp));replace R1:=hid (R1.out.kz hs);clear hk hs hbx;refine WE.done ?_;go_upto_region 2 with (fail)
 refine wp_region_S [(0,0),(1,1),(2,4)] fun wd hb=>?_;replace E:=hid (E.out.trans hb);replace B1:=hid (B1.out.up hb);replace B2:=hid (B2.out.up hb);replace R1:=hid (R1.out.up hb);clear hb;refine WE.q 7 (.agg #[.int .i64 s,.slice A1 n1 c1]) rfl (fun w' hk=>by have c0:=(B1.out.up hk).k 0;have c1:=(B1.out.up hk).k 1;go_simp) ?_;simp only[pX];refine WE.call (d:=some 8) rfl rfl (by rfl) (f:=145) (args:=#[(.agg #[.int .i64 s,.slice A1 n1 c1])]) (by go_simp) ?_;refine(told_i (InZ.mk HS.out R1.out)).mono ?_;rintro e wn ⟨vx,rfl,hx,hb⟩;obtain⟨g2,A2,n2,c2,rfl,hs2,hr2⟩:=hx.form;clear hx;refine⟨_,rfl,hb,?_⟩;replace E:=hid (E.out.trans hb);replace B2:=hid (B2.out.up hb);have HS2:=hid hs2;have R2:=hid hr2;clear hb hs2 hr2;simp only[pX];refine WE.store2 (g:=(w.heap.size+1)) (x:=.bool g2) (y:=.slice A2 n2 c2) (t:=24) rfl rfl (by rfl) (fun w hb=>?_) B2.out (by rfl) fun ws hk hs=>?_
 ·have c0:=hb.k 0;have f0:=hb.free 0;have c1:=hb.k 1;have f1:=hb.free 1;go_simp
 intro hbx;replace E:=hid (E.out.keptG hk (by simp));replace B2:=hid hbx;replace R2:=hid (R2.out.kz hs);clear hk hs hbx;refine WE.done ?_;have r0:=B2.out.cell (o:=0) (v:=.bool g2) rfl;have r1:=B2.out.cell (o:=1) (v:=.slice A2 n2 c2) rfl;go_wp2;exact bodyPost_ret (v:=.agg #[.bool g2,.slice A2 n2 c2]) (by simp[results,Tryz.results111,go_sem,r0,r1]) rfl ⟨_,rfl,IsZ.mk HS2.out R2.out,E.out⟩
end Go.Proofs.YtoenjbkmiphhoaaGreatDoor
