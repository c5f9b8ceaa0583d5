/-
  Contracts of the reference's integers, over what values are worth.
-/
import Derived.Test.YtoenjbkmiphhoaaGreatDoorA06
namespace Go.Proofs.YtoenjbkmiphhoaaGreatDoor
open Go.RowKit
set_option linter.unusedSimpArgs false
set_option linter.unusedVariables false
theorem isR_z {w:World}{v:Value}{l:List Nat}(hv:Num w w.heap.size v l){b:Bool}(hb:M.isNat l=b):
 Calls Tryz.prog 91 #[v] w fun e w'=>e=.returned (.bool b)∧w=w':=hb▸rIs_any w v l hv
theorem rzIs_f (w:World)(g:Bool)(A:Option Addr)(n c:Nat)(l:List Nat)(hm:Num w w.heap.size (.slice A n c) l)(hI:M.isNat l=false):
 Calls Tryz.prog 59 #[.agg #[.bool g,.slice A n c]] w (GivesB w false):=by
 have HI:=hid hI;have HM:=hid hm;clear hI hm;go_enter Tryz.func59,Tryz.ntmps59
 go_wp2_with fail
 refine(isR_z (HM.out.up (Ext.alloc w _)) HI.out).mono ?_;rintro e wq ⟨rfl,rfl⟩;go_wp2;go_ret;exact⟨rfl,Ext.alloc _ _⟩
theorem rzIs_tzt (w:World)(A:Option Addr)(n c:Nat)(l:List Nat)(hm:Num w w.heap.size (.slice A n c) l)(hI:M.isNat l=true)(hn:n=0):
 Calls Tryz.prog 59 #[.agg #[.bool true,.slice A n c]] w (GivesB w false):=by
 have HI:=hid hI;have HM:=hid hm;clear hI hm;subst hn;go_enter Tryz.func59,Tryz.ntmps59
 go_wp2_with fail
 refine(isR_z (HM.out.up (Ext.alloc w _)) HI.out).mono ?_;rintro e wq ⟨rfl,rfl⟩;go_wp2;go_ret;exact⟨rfl,Ext.alloc _ _⟩
theorem rzIs_tzf (w:World)(A:Option Addr)(n c:Nat)(l:List Nat)(hm:Num w w.heap.size (.slice A n c) l)(hI:M.isNat l=true)(hn:n=0):
 Calls Tryz.prog 59 #[.agg #[.bool false,.slice A n c]] w (GivesB w true):=by
 have HI:=hid hI;have HM:=hid hm;clear hI hm;subst hn;go_enter Tryz.func59,Tryz.ntmps59
 go_wp2_with fail
 refine(isR_z (HM.out.up (Ext.alloc w _)) HI.out).mono ?_;rintro e wq ⟨rfl,rfl⟩;go_wp2;go_ret;exact⟨rfl,Ext.alloc _ _⟩
theorem rzIs_tpt (w:World)(A:Option Addr)(n c:Nat)(l:List Nat)(hm:Num w w.heap.size (.slice A n c) l)(hI:M.isNat l=true)(hn:0<n):
 Calls Tryz.prog 59 #[.agg #[.bool true,.slice A n c]] w (GivesB w true):=by
 have HI:=hid hI;have HM:=hid hm;clear hI hm;have hn1:decide (0<n)=true:=by simpa using hn
 go_enter Tryz.func59,Tryz.ntmps59
 go_wp2_with fail
 refine(isR_z (HM.out.up (Ext.alloc w _)) HI.out).mono ?_;rintro e wq ⟨rfl,rfl⟩;go_wp2;go_ret;exact⟨rfl,Ext.alloc _ _⟩
theorem rzIs_tpf (w:World)(A:Option Addr)(n c:Nat)(l:List Nat)(hm:Num w w.heap.size (.slice A n c) l)(hI:M.isNat l=true)(hn:0<n):
 Calls Tryz.prog 59 #[.agg #[.bool false,.slice A n c]] w (GivesB w true):=by
 have HI:=hid hI;have HM:=hid hm;clear hI hm;have hn1:decide (0<n)=true:=by simpa using hn
 go_enter Tryz.func59,Tryz.ntmps59
 go_wp2_with fail
 refine(isR_z (HM.out.up (Ext.alloc w _)) HI.out).mono ?_;rintro e wq ⟨rfl,rfl⟩;go_wp2;go_ret;exact⟨rfl,Ext.alloc _ _⟩
theorem rzIs_any {w:World}{g:Bool}{A:Option Addr}{n c:Nat}{l:List Nat}(hm:Num w w.heap.size (.slice A n c) l){b:Bool}(hb:M.isZ g l=b):
 Calls Tryz.prog 59 #[.agg #[.bool g,.slice A n c]] w (GivesB w b):=by
 have hn:n=l.length:=by obtain⟨_,_,_,e,h,_⟩:=hm;injection e with _ e2;rw[e2,h]
 subst hb;cases hI:M.isNat l with
 | false=>
  have:M.isZ g l=false:=by unfold M.isZ;rw[hI];rfl
  rw[this];exact rzIs_f w g A n c l hm hI
 | true=>
  have e:=M.isZ_empty (g:=g) hI;rw[e];rcases Nat.eq_zero_or_pos n with h0|h0
  ·have:l=[]:=List.eq_nil_of_length_eq_zero (by omega);subst this;cases g
   ·exact rzIs_tzf w A n c _ hm hI h0
   ·exact rzIs_tzt w A n c _ hm hI h0
  ·have:l.isEmpty=false:=by cases l<;>simp_all
   rw[this];cases g
   ·exact rzIs_tpf w A n c _ hm hI h0
   ·exact rzIs_tpt w A n c _ hm hI h0
theorem IsN.len0 {w:World}{A:Option Addr}{n c N k:Nat}(h:IsN w (.slice A n c) N k): n=0↔N=0:=by
 obtain⟨⟨A',n',c',e,hn,_⟩,_⟩:=h;injection e with e1 e2 e3;subst e2;rw[hn];constructor
 ·intro h;exact M.limbs_eq_nil.1 (List.eq_nil_of_length_eq_zero h)
 ·intro h;rw[h,M.limbs_zero];rfl
theorem IsZ.nought {w:World}: IsZ w (.agg #[.bool false,.slice none 0 0]) 0 0:=by
 refine⟨none,0,0,rfl,?_,?_⟩
 ·rw[show (0:Int).natAbs=0 from rfl,M.limbs_zero];exact Num.nil _ _
 ·rw[show (0:Int).natAbs=0 from rfl,M.limbs_zero];simp
set_option maxHeartbeats 1000000 in
theorem rMay_true {w:World}{g:Bool}{A:Option Addr}{n c:Nat}{l:List Nat}{j:Nat}(hm:Num w w.heap.size (.slice A n c) l)(hb:M.isZ g l=true)(hk:l.length≤j):
 Calls Tryz.prog 56 #[.agg #[.bool g,.slice A n c]] w (GivesZ w (M.zv g l) j):=by
 have HM:=hid hm;have HB:=hid hb;have HK:=hid hk;clear hm hb hk;go_enter Tryz.func56,Tryz.ntmps56
 go_upto_region 1 with (fail)
 obtain⟨E,B1,B2⟩:=open2 w #[.bool g,.slice A n c] 24 #[.bool false,.slice none 0 0] 24;replace HM:=hid (HM.out.up E.out);refine wp_region_S [(0,0),(1,1),(2,0)] fun wd hb=>?_;replace E:=hid (E.out.trans hb);replace B1:=hid (B1.out.up hb);replace B2:=hid (B2.out.up hb);replace HM:=hid (HM.out.up hb);clear hb;refine WE.q 3 (.agg #[.bool g,.slice A n c]) rfl (fun w' hk=>by have c0:=(B1.out.up hk).k 0;have c1:=(B1.out.up hk).k 1;go_simp) ?_;simp only[pX];refine WE.call (d:=some 4) rfl rfl (by rfl) (f:=59) (args:=#[(.agg #[.bool g,.slice A n c])]) (by go_simp) ?_;refine(rzIs_any HM.out HB.out).mono ?_;rintro e wn ⟨rfl,hb⟩;refine⟨_,rfl,hb,?_⟩;replace E:=hid (E.out.trans hb);replace B1:=hid (B1.out.up hb);replace B2:=hid (B2.out.up hb);replace HM:=hid (HM.out.up hb);clear hb;refine WE.p 5 (.bool false) ?_;simp only[pX];refine WE.done ?_;go_upto_region 3 with (fail)
 refine wp_region_S [(0,0),(1,4)] fun wd hb=>?_;replace E:=hid (E.out.trans hb);replace B1:=hid (B1.out.up hb);replace B2:=hid (B2.out.up hb);replace HM:=hid (HM.out.up hb);clear hb;refine WE.q 7 (.agg #[.bool g,.slice A n c]) rfl (fun w' hk=>by have c0:=(B1.out.up hk).k 0;have c1:=(B1.out.up hk).k 1;go_simp) ?_;simp only[pX];refine WE.store2 (g:=(w.heap.size+1)) (x:=.bool g) (y:=.slice A n c) (t:=24) rfl rfl (by rfl) (fun w hb=>?_) B2.out (by rfl) fun ws hk hs=>?_
 ·have c0:=hb.k 0;have f0:=hb.free 0;have c1:=hb.k 1;have f1:=hb.free 1;go_simp
 intro hbx;replace E:=hid (E.out.keptG hk (by simp));replace B2:=hid hbx;replace HM:=hid (HM.out.kz hs);clear hk hs hbx;refine WE.done ?_;have r0:=B2.out.cell (o:=0) (v:=.bool g) rfl;have r1:=B2.out.cell (o:=1) (v:=.slice A n c) rfl;go_wp2;exact bodyPost_ret (v:=.agg #[.bool g,.slice A n c]) (by simp[results,Tryz.results56,go_sem,r0,r1]) rfl ⟨_,rfl,IsZ.mk (M.zv_lt HB.out).symm ⟨by rw[M.limbs_zv HB.out];exact HM.out,by rw[M.limbs_zv HB.out];exact HK.out⟩,E.out⟩
set_option maxHeartbeats 1000000 in
theorem rMay_false {w:World}{g:Bool}{A:Option Addr}{n c:Nat}{l:List Nat}{j:Nat}(hm:Num w w.heap.size (.slice A n c) l)(hb:M.isZ g l=false)(hk:l.length≤j):
 Calls Tryz.prog 56 #[.agg #[.bool g,.slice A n c]] w (GivesZ w (M.zv g l) j):=by
 have HM:=hid hm;have HB:=hid hb;clear hm hb hk;go_enter Tryz.func56,Tryz.ntmps56
 go_upto_region 1 with (fail)
 obtain⟨E,B1,B2⟩:=open2 w #[.bool g,.slice A n c] 24 #[.bool false,.slice none 0 0] 24;replace HM:=hid (HM.out.up E.out);refine wp_region_S [(0,0),(1,1),(2,0)] fun wd hb=>?_;replace E:=hid (E.out.trans hb);replace B1:=hid (B1.out.up hb);replace B2:=hid (B2.out.up hb);replace HM:=hid (HM.out.up hb);clear hb;refine WE.q 3 (.agg #[.bool g,.slice A n c]) rfl (fun w' hk=>by have c0:=(B1.out.up hk).k 0;have c1:=(B1.out.up hk).k 1;go_simp) ?_;simp only[pX];refine WE.call (d:=some 4) rfl rfl (by rfl) (f:=59) (args:=#[(.agg #[.bool g,.slice A n c])]) (by go_simp) ?_;refine(rzIs_any HM.out HB.out).mono ?_;rintro e wn ⟨rfl,hb⟩;refine⟨_,rfl,hb,?_⟩;replace E:=hid (E.out.trans hb);replace B2:=hid (B2.out.up hb);clear hb;refine WE.p 5 (.bool true) ?_;simp only[pX];refine WE.done ?_;go_upto_region 2 with (fail)
 refine wp_region_S [(0,0),(1,4)] fun wd hb=>?_;replace E:=hid (E.out.trans hb);replace B2:=hid (B2.out.up hb);clear hb;refine WE.p 6 (.agg #[.bool false,.slice none 0 0]) ?_;simp only[pX];refine WE.store2 (g:=(w.heap.size+1)) (x:=.bool false) (y:=.slice none 0 0) (t:=24) rfl rfl (by rfl) (fun w hb=>?_) B2.out (by rfl) fun ws hk hs=>?_
 ·have c0:=hb.k 0;have f0:=hb.free 0;have c1:=hb.k 1;have f1:=hb.free 1;go_simp
 intro hbx;replace E:=hid (E.out.keptG hk (by simp));replace B2:=hid hbx;clear hk hs hbx;refine WE.done ?_;have r0:=B2.out.cell (o:=0) (v:=.bool false) rfl;have r1:=B2.out.cell (o:=1) (v:=.slice none 0 0) rfl;go_wp2;exact bodyPost_ret (v:=.agg #[.bool false,.slice none 0 0]) (by simp[results,Tryz.results56,go_sem,r0,r1]) rfl ⟨_,rfl,by rw[M.zv_off HB.out];exact IsZ.nought.wide (Nat.zero_le _),E.out⟩
theorem rMay_w {w:World}{u:Value}{Z:Int}{j:Nat}(hu:Worth w u Z j): Calls Tryz.prog 56 #[u] w (GivesZ w Z j):=by
 obtain⟨g,A,n,c,l,rfl,hm,hk,rfl⟩:=hu;cases hb:M.isZ g l with
 | false=>exact rMay_false hm hb hk
 | true=>exact rMay_true hm hb hk
set_option maxHeartbeats 1000000 in
theorem rsign_f {w:World}{A:Option Addr}{n c N k:Nat}(hm:IsN w (.slice A n c) N k){Z:Int}(hN:N=Z.natAbs)(hs:N≠0→false=decide (Z<0)):
 Calls Tryz.prog 53 #[.bool false,.slice A n c] w (GivesZ w Z k):=by
 have HS:=hid hs;have HN:=hid hN;have HM:=hid hm;clear hs hN hm;go_enter Tryz.func53,Tryz.ntmps53
 go_upto_region 1 with (fail)
 obtain⟨E,B1⟩:=open1 w #[.bool false,.slice none 0 0] 24;replace HM:=hid (HM.out.up E.out);refine wp_region_S [(0,0),(1,0),(2,0),(3,0),(4,0),(5,0),(6,0),(7,0),(8,4)] fun wd hb=>?_;replace E:=hid (E.out.trans hb);replace B1:=hid (B1.out.up hb);replace HM:=hid (HM.out.up hb);clear hb;refine WE.p 5 (.bool false) ?_;refine WE.p 6 (.bool false) ?_;refine WE.s 7 ?_;refine WE.s 8 ?_;refine WE.s 9 ?_;refine WE.p 10 (.bool false) ?_;simp only[pX];refine WE.p 11 (.slice A n c) ?_;refine WE.p 12 (.agg #[.bool false,.slice A n c]) ?_;simp only[pX];refine WE.store2 (g:=(w.heap.size)) (x:=.bool false) (y:=.slice A n c) (t:=24) rfl rfl (by rfl) (fun w hb=>?_) B1.out (by rfl) fun ws hk hs=>?_
 ·have c0:=hb.k 0;have f0:=hb.free 0;have c1:=hb.k 1;have f1:=hb.free 1;go_simp
 intro hbx;replace E:=hid (E.out.keptG hk (by simp));replace B1:=hid hbx;replace HM:=hid (HM.out.kz hs);clear hk hs hbx;refine WE.done ?_;have r0:=B1.out.cell (o:=0) (v:=.bool false) rfl;have r1:=B1.out.cell (o:=1) (v:=.slice A n c) rfl;go_wp2;exact bodyPost_ret (v:=.agg #[.bool false,.slice A n c]) (by simp[results,Tryz.results53,go_sem,r0,r1]) rfl ⟨_,rfl,IsZ.mk (if h0:N=0 then (by have h1:=HM.out.len0.2 h0;have:=HN.out;rw[h0] at this;rw[eq_comm,decide_eq_false_iff_not];omega) else HS.out h0) (by rw[←HN.out];exact HM.out),E.out⟩
set_option maxHeartbeats 1000000 in
theorem rsign_tz {w:World}{A:Option Addr}{n c N k:Nat}(hm:IsN w (.slice A n c) N k){Z:Int}(hN:N=Z.natAbs)(hs:N≠0→true=decide (Z<0))(hn:n=0):
 Calls Tryz.prog 53 #[.bool true,.slice A n c] w (GivesZ w Z k):=by
 have HN:=hid hN;have HM:=hid hm;clear hs hN hm;have hq:decide (0<n)=false:=by simpa using hn
 go_enter Tryz.func53,Tryz.ntmps53
 go_upto_region 1 with (fail)
 obtain⟨E,B1⟩:=open1 w #[.bool false,.slice none 0 0] 24;replace HM:=hid (HM.out.up E.out);refine wp_region_S [(0,0),(1,0),(2,0),(3,0),(4,0),(5,0),(6,0),(7,0),(8,4)] fun wd hb=>?_;replace E:=hid (E.out.trans hb);replace B1:=hid (B1.out.up hb);replace HM:=hid (HM.out.up hb);clear hb;refine WE.p 5 (.bool true) ?_;refine WE.p 6 (.bool true) ?_;refine WE.p 7 (.slice A n c) ?_;refine WE.p 8 (.int .i64 (n:Int)) ?_;refine WE.p 9 (.bool false) ?_;refine WE.p 10 (.bool false) ?_;simp only[pX];refine WE.p 11 (.slice A n c) ?_;refine WE.p 12 (.agg #[.bool false,.slice A n c]) ?_;simp only[pX];refine WE.store2 (g:=(w.heap.size)) (x:=.bool false) (y:=.slice A n c) (t:=24) rfl rfl (by rfl) (fun w hb=>?_) B1.out (by rfl) fun ws hk hs=>?_
 ·have c0:=hb.k 0;have f0:=hb.free 0;have c1:=hb.k 1;have f1:=hb.free 1;go_simp
 intro hbx;replace E:=hid (E.out.keptG hk (by simp));replace B1:=hid hbx;replace HM:=hid (HM.out.kz hs);clear hk hs hbx;refine WE.done ?_;have r0:=B1.out.cell (o:=0) (v:=.bool false) rfl;have r1:=B1.out.cell (o:=1) (v:=.slice A n c) rfl;go_wp2;exact bodyPost_ret (v:=.agg #[.bool false,.slice A n c]) (by simp[results,Tryz.results53,go_sem,r0,r1]) rfl ⟨_,rfl,IsZ.mk (by have h0:=HM.out.len0.1 hn;have:=HN.out;rw[h0] at this;rw[eq_comm,decide_eq_false_iff_not];omega) (by rw[←HN.out];exact HM.out),E.out⟩
set_option maxHeartbeats 1000000 in
theorem rsign_tp {w:World}{A:Option Addr}{n c N k:Nat}(hm:IsN w (.slice A n c) N k){Z:Int}(hN:N=Z.natAbs)(hs:N≠0→true=decide (Z<0))(hn:0<n):
 Calls Tryz.prog 53 #[.bool true,.slice A n c] w (GivesZ w Z k):=by
 have HS:=hid hs;have HN:=hid hN;have HM:=hid hm;clear hs hN hm;have hq:decide (0<n)=true:=by simpa using hn
 go_enter Tryz.func53,Tryz.ntmps53
 go_upto_region 1 with (fail)
 obtain⟨E,B1⟩:=open1 w #[.bool false,.slice none 0 0] 24;replace HM:=hid (HM.out.up E.out);refine wp_region_S [(0,0),(1,0),(2,0),(3,0),(4,0),(5,0),(6,0),(7,0),(8,4)] fun wd hb=>?_;replace E:=hid (E.out.trans hb);replace B1:=hid (B1.out.up hb);replace HM:=hid (HM.out.up hb);clear hb;refine WE.p 5 (.bool true) ?_;refine WE.p 6 (.bool true) ?_;refine WE.p 7 (.slice A n c) ?_;refine WE.p 8 (.int .i64 (n:Int)) ?_;refine WE.p 9 (.bool true) ?_;refine WE.p 10 (.bool true) ?_;simp only[pX];refine WE.p 11 (.slice A n c) ?_;refine WE.p 12 (.agg #[.bool true,.slice A n c]) ?_;simp only[pX];refine WE.store2 (g:=(w.heap.size)) (x:=.bool true) (y:=.slice A n c) (t:=24) rfl rfl (by rfl) (fun w hb=>?_) B1.out (by rfl) fun ws hk hs=>?_
 ·have c0:=hb.k 0;have f0:=hb.free 0;have c1:=hb.k 1;have f1:=hb.free 1;go_simp
 intro hbx;replace E:=hid (E.out.keptG hk (by simp));replace B1:=hid hbx;replace HM:=hid (HM.out.kz hs);clear hk hs hbx;refine WE.done ?_;have r0:=B1.out.cell (o:=0) (v:=.bool true) rfl;have r1:=B1.out.cell (o:=1) (v:=.slice A n c) rfl;go_wp2;exact bodyPost_ret (v:=.agg #[.bool true,.slice A n c]) (by simp[results,Tryz.results53,go_sem,r0,r1]) rfl ⟨_,rfl,IsZ.mk (if h0:N=0 then (by have h1:=HM.out.len0.2 h0;have:=HN.out;omega) else HS.out h0) (by rw[←HN.out];exact HM.out),E.out⟩
theorem rsign_n {w:World}{g:Bool}{v:Value}{N k:Nat}(hm:IsN w v N k){Z:Int}(hN:N=Z.natAbs)(hs:N≠0→g=decide (Z<0)):
 Calls Tryz.prog 53 #[.bool g,v] w (GivesZ w Z k):=by
 obtain⟨A,n,c,rfl⟩:=hm.1.slice;cases g
 ·exact rsign_f hm hN hs
 ·rcases Nat.eq_zero_or_pos n with h|h
  ·exact rsign_tz hm hN hs h
  ·exact rsign_tp hm hN hs h
theorem rof_n (n:Nat)(hn:(n:Int)≤18446744073709551615)(w:World): Calls Tryz.prog 54 #[.int .u64 (n:Int)] w (GivesN w n 3):=
 (natOf_any n hn w).mono fun _ _ ⟨v,he,hv,hb⟩=>⟨v,he,⟨hv,limbs_len3 (by omega)⟩,hb⟩
set_option maxHeartbeats 1000000 in
theorem rOf_neg {n:Int}(hn:n<0)(h1:-9223372036854775808≤n)(h2:n≤9223372036854775807)(w:World):
 Calls Tryz.prog 28 #[.int .i64 n] w (GivesZ w n 3):=by
 obtain⟨m,hm⟩:∃m:Nat,m=n.natAbs:=⟨_,rfl⟩;have HM:=hid hm;have HN:=hid hn;have HB:=hid h1;have HB2:=hid h2;have hl:n<0:=hn;obtain⟨p,hp⟩:∃p:Int,IntKind.u64.wrap n=p:=⟨_,rfl⟩;have hq:IntKind.u64.wrap (-p)=(m:Int):=by rw[←hp,IntKind.wrap_u64,IntKind.wrap_u64];omega
 clear hm hn h1 h2;go_enter Tryz.func28,Tryz.ntmps28
 go_upto_region 1 with (fail)
 obtain⟨E,B1⟩:=open1 w #[.bool false,.slice none 0 0] 24;refine wp_region_S [(0,0),(1,0)] fun wd hb=>?_;replace E:=hid (E.out.trans hb);replace B1:=hid (B1.out.up hb);clear hb;refine WE.p 3 (.int .i64 n) ?_;refine WE.p 4 (.bool true) ?_;simp only[pX];refine WE.done ?_;go_upto_region 2 with (fail)
 refine wp_region_S [(0,0),(1,0),(2,0),(3,1),(4,1),(5,4)] fun wd hb=>?_;replace E:=hid (E.out.trans hb);replace B1:=hid (B1.out.up hb);clear hb;refine WE.p 5 (.int .i64 n) ?_;refine WE.p 6 (.int .u64 p) ?_;refine WE.p 7 (.int .u64 (m:Int)) ?_;simp only[pX];refine WE.call (d:=some 8) rfl rfl (by rfl) (f:=54) (args:=#[(.int .u64 (m:Int))]) (by go_simp) ?_;refine(rof_n m (by have:=HM.out;have:=HB.out;have:=HB2.out;omega) _).mono ?_;rintro e wn ⟨vx,rfl,hx,hb⟩;obtain⟨A1,n1,c1,rfl⟩:=hx.1.slice;refine⟨_,rfl,hb,?_⟩;replace E:=hid (E.out.trans hb);replace B1:=hid (B1.out.up hb);have R1:=hid hx;clear hb hx;simp only[pX];refine WE.call (d:=some 9) rfl rfl (by rfl) (f:=53) (args:=#[(.bool true),(.slice A1 n1 c1)]) (by go_simp) ?_;refine(rsign_n R1.out (Z:=n) HM.out (fun _=>by have:=HN.out;simpa using this)).mono ?_;rintro e wn ⟨vx,rfl,hx,hb⟩;obtain⟨g2,A2,n2,c2,rfl,hs2,hr2⟩:=hx.form;clear hx;refine⟨_,rfl,hb,?_⟩;replace E:=hid (E.out.trans hb);replace B1:=hid (B1.out.up hb);have HS2:=hid hs2;have R2:=hid hr2;clear hb hs2 hr2;simp only[pX];refine WE.store2 (g:=(w.heap.size)) (x:=.bool g2) (y:=.slice A2 n2 c2) (t:=24) rfl rfl (by rfl) (fun w hb=>?_) B1.out (by rfl) fun ws hk hs=>?_
 ·have c0:=hb.k 0;have f0:=hb.free 0;have c1:=hb.k 1;have f1:=hb.free 1;go_simp
 intro hbx;replace E:=hid (E.out.keptG hk (by simp));replace B1:=hid hbx;replace R2:=hid (R2.out.kz hs);clear hk hs hbx;refine WE.done ?_;have r0:=B1.out.cell (o:=0) (v:=.bool g2) rfl;have r1:=B1.out.cell (o:=1) (v:=.slice A2 n2 c2) rfl;go_wp2;exact bodyPost_ret (v:=.agg #[.bool g2,.slice A2 n2 c2]) (by simp[results,Tryz.results28,go_sem,r0,r1]) rfl ⟨_,rfl,IsZ.mk HS2.out R2.out,E.out⟩
set_option maxHeartbeats 1000000 in
theorem rOf_pos {n:Int}(hn:0≤n)(h1:-9223372036854775808≤n)(h2:n≤9223372036854775807)(w:World):
 Calls Tryz.prog 28 #[.int .i64 n] w (GivesZ w n 3):=by
 obtain⟨m,hm⟩:∃m:Nat,m=n.natAbs:=⟨_,rfl⟩;have HM:=hid hm;have HN:=hid hn;have HB:=hid h1;have HB2:=hid h2;have hl:decide (n<0)=false:=by simpa using hn
 have hp:IntKind.u64.wrap n=(m:Int):=by rw[IntKind.wrap_u64];omega
 clear hm hn h1 h2;go_enter Tryz.func28,Tryz.ntmps28
 go_upto_region 1 with (fail)
 obtain⟨E,B1⟩:=open1 w #[.bool false,.slice none 0 0] 24;refine wp_region_S [(0,0),(1,0)] fun wd hb=>?_;replace E:=hid (E.out.trans hb);replace B1:=hid (B1.out.up hb);clear hb;refine WE.p 3 (.int .i64 n) ?_;refine WE.p 4 (.bool false) ?_;simp only[pX];refine WE.done ?_;go_upto_region 3 with (fail)
 refine wp_region_S [(0,0),(1,0),(2,1),(3,0),(4,4)] fun wd hb=>?_;replace E:=hid (E.out.trans hb);replace B1:=hid (B1.out.up hb);clear hb;refine WE.p 10 (.int .i64 n) ?_;refine WE.p 11 (.int .u64 (m:Int)) ?_;simp only[pX];refine WE.call (d:=some 12) rfl rfl (by rfl) (f:=54) (args:=#[(.int .u64 (m:Int))]) (by go_simp) ?_;refine(rof_n m (by have:=HM.out;have:=HB.out;have:=HB2.out;omega) _).mono ?_;rintro e wn ⟨vx,rfl,hx,hb⟩;obtain⟨A1,n1,c1,rfl⟩:=hx.1.slice;refine⟨_,rfl,hb,?_⟩;replace E:=hid (E.out.trans hb);replace B1:=hid (B1.out.up hb);have R1:=hid hx;clear hb hx;refine WE.p 13 (.agg #[.bool false,.slice A1 n1 c1]) ?_;simp only[pX];refine WE.store2 (g:=(w.heap.size)) (x:=.bool false) (y:=.slice A1 n1 c1) (t:=24) rfl rfl (by rfl) (fun w hb=>?_) B1.out (by rfl) fun ws hk hs=>?_
 ·have c0:=hb.k 0;have f0:=hb.free 0;have c1:=hb.k 1;have f1:=hb.free 1;go_simp
 intro hbx;replace E:=hid (E.out.keptG hk (by simp));replace B1:=hid hbx;replace R1:=hid (R1.out.kz hs);clear hk hs hbx;refine WE.done ?_;have r0:=B1.out.cell (o:=0) (v:=.bool false) rfl;have r1:=B1.out.cell (o:=1) (v:=.slice A1 n1 c1) rfl;go_wp2;exact bodyPost_ret (v:=.agg #[.bool false,.slice A1 n1 c1]) (by simp[results,Tryz.results28,go_sem,r0,r1]) rfl ⟨_,rfl,IsZ.mk (by simpa using HN.out) (by rw[←HM.out];exact R1.out),E.out⟩
theorem rOf_z {n:Int}(h1:-9223372036854775808≤n)(h2:n≤9223372036854775807)(w:World): Calls Tryz.prog 28 #[.int .i64 n] w (GivesZ w n 3):=by
 rcases (by omega:n<0∨0≤n) with h|h
 ·exact rOf_neg h h1 h2 w
 ·exact rOf_pos h h1 h2 w
set_option maxHeartbeats 1000000 in
theorem rSign_n {w:World}{u:Value}{Z:Int}{j:Nat}(hu:Worth w u Z j)(hz:Z<0):
 Calls Tryz.prog 60 #[u] w (fun e w'=>e=.returned (.int .i64 (-1))∧Ext w w'):=by
 obtain⟨g,A,n,c,rfl⟩:=hu.shape;have R:=hid hu;clear hu;have HZ:=hid hz;have HL:=hid (show decide (Z<0)=true by simp;omega);clear hz;go_enter Tryz.func60,Tryz.ntmps60
 go_upto_region 1 with (fail)
 obtain⟨E,B1⟩:=open1 w #[.bool g,.slice A n c] 24;replace R:=hid (R.out.up E.out);refine wp_region_S [(0,0),(1,1),(2,1),(3,4)] fun wd hb=>?_;replace E:=hid (E.out.trans hb);replace B1:=hid (B1.out.up hb);replace R:=hid (R.out.up hb);clear hb;refine WE.q 4 (.agg #[.bool g,.slice A n c]) rfl (fun w' hk=>by have c0:=(B1.out.up hk).k 0;have c1:=(B1.out.up hk).k 1;go_simp) ?_;simp only[pX];refine WE.call (d:=some 5) rfl rfl (by rfl) (f:=56) (args:=#[(.agg #[.bool g,.slice A n c])]) (by go_simp) ?_;refine(rMay_w R.out).mono ?_;rintro e wn ⟨vx,rfl,hx,hb⟩;obtain⟨gg,A1,n1,c1,rfl,hs1,hr1⟩:=hx.form;clear hx;obtain rfl:gg=true:=hs1.trans HL.out;clear hs1;refine⟨_,rfl,hb,?_⟩;replace E:=hid (E.out.trans hb);have R1:=hid hr1;clear hb hr1;simp only[pX];refine WE.new (d:=some 3) (cs:=#[.bool false,.slice none 0 0]) (t:=24) (v:=fun g=>(.pointer (some ⟨g,0,none⟩))) rfl rfl (by rfl) (fun w=>by go_simp) fun gC1 wv hx0 hbox hge=>?_;have HGC1:=hid (show w.heap.size≤gC1 by have:=E.out.size;omega);replace E:=hid (E.out.trans hx0);replace R1:=hid (R1.out.up hx0);have C1:Hid (Box wv gC1 #[.bool false,.slice none 0 0] 24):=hid hbox;clear hx0 hbox hge;simp only[pX];refine WE.store2 (g:=gC1) (x:=.bool true) (y:=.slice A1 n1 c1) (t:=24) rfl rfl (by rfl) (fun w hb=>?_) C1.out (by rfl) fun ws hk hs=>?_
 ·have c0:=hb.k 0;have f0:=hb.free 0;have c1:=hb.k 1;have f1:=hb.free 1;go_simp
 intro hbx;replace E:=hid (E.out.keptG hk HGC1.out);replace C1:=hid hbx;replace R1:=hid (R1.out.kz hs);clear hk hs hbx;refine WE.done ?_;have hq:((n1:Int)==0)=false:=by have h1:=R1.out.len0;have h2:=HZ.out;simp;omega
 go_upto_region 2 with (fail)
 refine wp_region_S [(0,0),(1,0),(2,0),(3,0),(4,0)] fun wd hb=>?_;replace E:=hid (E.out.trans hb);replace C1:=hid (C1.out.up hb);clear hb;refine WE.p 7 (.pointer (some ⟨gC1,1,none⟩)) ?_;refine WE.q 8 (.slice A1 n1 c1) rfl (fun w' hk=>by have c1:=(C1.out.up hk).k 1;go_simp) ?_;refine WE.p 9 (.int .i64 (n1:Int)) ?_;refine WE.p 10 (.bool false) ?_;refine WE.p 6 (.bool false) ?_;simp only[pX];refine WE.done ?_;go_upto_region 4 with (fail)
 refine wp_region_S [(0,0),(1,0),(2,0)] fun wd hb=>?_;replace E:=hid (E.out.trans hb);replace C1:=hid (C1.out.up hb);clear hb;refine WE.p 12 (.pointer (some ⟨gC1,0,none⟩)) ?_;refine WE.q 13 (.bool true) rfl (fun w' hk=>by have c0:=(C1.out.up hk).k 0;go_simp) ?_;refine WE.p 11 (.bool true) ?_;simp only[pX];refine WE.done ?_;go_wp2;go_ret;exact⟨rfl,E.out⟩
set_option maxHeartbeats 1000000 in
theorem rSign_z {w:World}{u:Value}{Z:Int}{j:Nat}(hu:Worth w u Z j)(hz:Z=0):
 Calls Tryz.prog 60 #[u] w (fun e w'=>e=.returned (.int .i64 0)∧Ext w w'):=by
 obtain⟨g,A,n,c,rfl⟩:=hu.shape;have R:=hid hu;clear hu;have HZ:=hid hz;have HL:=hid (show decide (Z<0)=false by simp;omega);clear hz;go_enter Tryz.func60,Tryz.ntmps60
 go_upto_region 1 with (fail)
 obtain⟨E,B1⟩:=open1 w #[.bool g,.slice A n c] 24;replace R:=hid (R.out.up E.out);refine wp_region_S [(0,0),(1,1),(2,1),(3,4)] fun wd hb=>?_;replace E:=hid (E.out.trans hb);replace B1:=hid (B1.out.up hb);replace R:=hid (R.out.up hb);clear hb;refine WE.q 4 (.agg #[.bool g,.slice A n c]) rfl (fun w' hk=>by have c0:=(B1.out.up hk).k 0;have c1:=(B1.out.up hk).k 1;go_simp) ?_;simp only[pX];refine WE.call (d:=some 5) rfl rfl (by rfl) (f:=56) (args:=#[(.agg #[.bool g,.slice A n c])]) (by go_simp) ?_;refine(rMay_w R.out).mono ?_;rintro e wn ⟨vx,rfl,hx,hb⟩;obtain⟨gg,A1,n1,c1,rfl,hs1,hr1⟩:=hx.form;clear hx;obtain rfl:gg=false:=hs1.trans HL.out;clear hs1;refine⟨_,rfl,hb,?_⟩;replace E:=hid (E.out.trans hb);have R1:=hid hr1;clear hb hr1;simp only[pX];refine WE.new (d:=some 3) (cs:=#[.bool false,.slice none 0 0]) (t:=24) (v:=fun g=>(.pointer (some ⟨g,0,none⟩))) rfl rfl (by rfl) (fun w=>by go_simp) fun gC1 wv hx0 hbox hge=>?_;have HGC1:=hid (show w.heap.size≤gC1 by have:=E.out.size;omega);replace E:=hid (E.out.trans hx0);replace R1:=hid (R1.out.up hx0);have C1:Hid (Box wv gC1 #[.bool false,.slice none 0 0] 24):=hid hbox;clear hx0 hbox hge;simp only[pX];refine WE.store2 (g:=gC1) (x:=.bool false) (y:=.slice A1 n1 c1) (t:=24) rfl rfl (by rfl) (fun w hb=>?_) C1.out (by rfl) fun ws hk hs=>?_
 ·have c0:=hb.k 0;have f0:=hb.free 0;have c1:=hb.k 1;have f1:=hb.free 1;go_simp
 intro hbx;replace E:=hid (E.out.keptG hk HGC1.out);replace C1:=hid hbx;replace R1:=hid (R1.out.kz hs);clear hk hs hbx;refine WE.done ?_;have hq:((n1:Int)==0)=true:=by have h1:=R1.out.len0;have h2:=HZ.out;simp;omega
 go_upto_region 2 with (fail)
 refine wp_region_S [(0,0),(1,0),(2,0),(3,0),(4,0)] fun wd hb=>?_;replace E:=hid (E.out.trans hb);replace C1:=hid (C1.out.up hb);clear hb;refine WE.p 7 (.pointer (some ⟨gC1,1,none⟩)) ?_;refine WE.q 8 (.slice A1 n1 c1) rfl (fun w' hk=>by have c1:=(C1.out.up hk).k 1;go_simp) ?_;refine WE.p 9 (.int .i64 (n1:Int)) ?_;refine WE.p 10 (.bool true) ?_;refine WE.p 6 (.bool true) ?_;simp only[pX];refine WE.done ?_;go_wp2;go_ret;exact⟨rfl,E.out⟩
set_option maxHeartbeats 1000000 in
theorem rSign_p {w:World}{u:Value}{Z:Int}{j:Nat}(hu:Worth w u Z j)(hz:0<Z):
 Calls Tryz.prog 60 #[u] w (fun e w'=>e=.returned (.int .i64 1)∧Ext w w'):=by
 obtain⟨g,A,n,c,rfl⟩:=hu.shape;have R:=hid hu;clear hu;have HZ:=hid hz;have HL:=hid (show decide (Z<0)=false by simp;omega);clear hz;go_enter Tryz.func60,Tryz.ntmps60
 go_upto_region 1 with (fail)
 obtain⟨E,B1⟩:=open1 w #[.bool g,.slice A n c] 24;replace R:=hid (R.out.up E.out);refine wp_region_S [(0,0),(1,1),(2,1),(3,4)] fun wd hb=>?_;replace E:=hid (E.out.trans hb);replace B1:=hid (B1.out.up hb);replace R:=hid (R.out.up hb);clear hb;refine WE.q 4 (.agg #[.bool g,.slice A n c]) rfl (fun w' hk=>by have c0:=(B1.out.up hk).k 0;have c1:=(B1.out.up hk).k 1;go_simp) ?_;simp only[pX];refine WE.call (d:=some 5) rfl rfl (by rfl) (f:=56) (args:=#[(.agg #[.bool g,.slice A n c])]) (by go_simp) ?_;refine(rMay_w R.out).mono ?_;rintro e wn ⟨vx,rfl,hx,hb⟩;obtain⟨gg,A1,n1,c1,rfl,hs1,hr1⟩:=hx.form;clear hx;obtain rfl:gg=false:=hs1.trans HL.out;clear hs1;refine⟨_,rfl,hb,?_⟩;replace E:=hid (E.out.trans hb);have R1:=hid hr1;clear hb hr1;simp only[pX];refine WE.new (d:=some 3) (cs:=#[.bool false,.slice none 0 0]) (t:=24) (v:=fun g=>(.pointer (some ⟨g,0,none⟩))) rfl rfl (by rfl) (fun w=>by go_simp) fun gC1 wv hx0 hbox hge=>?_;have HGC1:=hid (show w.heap.size≤gC1 by have:=E.out.size;omega);replace E:=hid (E.out.trans hx0);replace R1:=hid (R1.out.up hx0);have C1:Hid (Box wv gC1 #[.bool false,.slice none 0 0] 24):=hid hbox;clear hx0 hbox hge;simp only[pX];refine WE.store2 (g:=gC1) (x:=.bool false) (y:=.slice A1 n1 c1) (t:=24) rfl rfl (by rfl) (fun w hb=>?_) C1.out (by rfl) fun ws hk hs=>?_
 ·have c0:=hb.k 0;have f0:=hb.free 0;have c1:=hb.k 1;have f1:=hb.free 1;go_simp
 intro hbx;replace E:=hid (E.out.keptG hk HGC1.out);replace C1:=hid hbx;replace R1:=hid (R1.out.kz hs);clear hk hs hbx;refine WE.done ?_;have hq:((n1:Int)==0)=false:=by have h1:=R1.out.len0;have h2:=HZ.out;simp;omega
 go_upto_region 2 with (fail)
 refine wp_region_S [(0,0),(1,0),(2,0),(3,0),(4,0)] fun wd hb=>?_;replace E:=hid (E.out.trans hb);replace C1:=hid (C1.out.up hb);clear hb;refine WE.p 7 (.pointer (some ⟨gC1,1,none⟩)) ?_;refine WE.q 8 (.slice A1 n1 c1) rfl (fun w' hk=>by have c1:=(C1.out.up hk).k 1;go_simp) ?_;refine WE.p 9 (.int .i64 (n1:Int)) ?_;refine WE.p 10 (.bool false) ?_;refine WE.p 6 (.bool false) ?_;simp only[pX];refine WE.done ?_;go_upto_region 4 with (fail)
 refine wp_region_S [(0,0),(1,0),(2,0)] fun wd hb=>?_;replace E:=hid (E.out.trans hb);replace C1:=hid (C1.out.up hb);clear hb;refine WE.p 12 (.pointer (some ⟨gC1,0,none⟩)) ?_;refine WE.q 13 (.bool false) rfl (fun w' hk=>by have c0:=(C1.out.up hk).k 0;go_simp) ?_;refine WE.p 11 (.bool false) ?_;simp only[pX];refine WE.done ?_;go_wp2;go_ret;exact⟨rfl,E.out⟩
theorem rSign_w {w:World}{u:Value}{Z:Int}{j:Nat}(hu:Worth w u Z j){s:Int}(hs:Z.sign=s): Calls Tryz.prog 60 #[u] w (fun e w'=>e=.returned (.int .i64 s)∧Ext w w'):=by
 subst hs;rcases M.sign_cases Z with⟨h,e⟩|⟨h,e⟩|⟨h,e⟩<;>rw[e]
 ·exact rSign_n hu h
 ·exact rSign_z hu h
 ·exact rSign_p hu h
set_option maxHeartbeats 1000000 in
theorem rNeg_w {w:World}{u:Value}{Z:Int}{j:Nat}(hu:Worth w u Z j):
 Calls Tryz.prog 129 #[u] w (GivesZ w (-Z) j):=by
 obtain⟨g,A,n,c,rfl⟩:=hu.shape;have R:=hid hu;clear hu;go_enter Tryz.func129,Tryz.ntmps129
 go_upto_region 1 with (fail)
 obtain⟨E,B1,B2⟩:=open2 w #[.bool g,.slice A n c] 24 #[.bool false,.slice none 0 0] 24;replace R:=hid (R.out.up E.out);refine wp_region_S [(0,0),(1,1),(2,1),(3,4)] fun wd hb=>?_;replace E:=hid (E.out.trans hb);replace B1:=hid (B1.out.up hb);replace B2:=hid (B2.out.up hb);replace R:=hid (R.out.up hb);clear hb;refine WE.q 4 (.agg #[.bool g,.slice A n c]) rfl (fun w' hk=>by have c0:=(B1.out.up hk).k 0;have c1:=(B1.out.up hk).k 1;go_simp) ?_;simp only[pX];refine WE.call (d:=some 5) rfl rfl (by rfl) (f:=56) (args:=#[(.agg #[.bool g,.slice A n c])]) (by go_simp) ?_;refine(rMay_w R.out).mono ?_;rintro e wn ⟨vx,rfl,hx,hb⟩;obtain⟨g1,A1,n1,c1,rfl,hs1,hr1⟩:=hx.form;clear hx;refine⟨_,rfl,hb,?_⟩;replace E:=hid (E.out.trans hb);replace B2:=hid (B2.out.up hb);have HS1:=hid hs1;have R1:=hid hr1;clear hb hs1 hr1;simp only[pX];refine WE.new (d:=some 3) (cs:=#[.bool false,.slice none 0 0]) (t:=24) (v:=fun g=>(.pointer (some ⟨g,0,none⟩))) rfl rfl (by rfl) (fun w=>by go_simp) fun gC1 wv hx0 hbox hge=>?_;have HNC1B2:=hid (show gC1≠(w.heap.size+1) by have:=B2.out.lt;omega);have HGC1:=hid (show w.heap.size≤gC1 by have:=E.out.size;omega);replace E:=hid (E.out.trans hx0);replace B2:=hid (B2.out.up hx0);replace R1:=hid (R1.out.up hx0);have C1:Hid (Box wv gC1 #[.bool false,.slice none 0 0] 24):=hid hbox;clear hx0 hbox hge;simp only[pX];refine WE.store2 (g:=gC1) (x:=.bool g1) (y:=.slice A1 n1 c1) (t:=24) rfl rfl (by rfl) (fun w hb=>?_) C1.out (by rfl) fun ws hk hs=>?_
 ·have c0:=hb.k 0;have f0:=hb.free 0;have c1:=hb.k 1;have f1:=hb.free 1;go_simp
 intro hbx;replace E:=hid (E.out.keptG hk HGC1.out);replace B2:=hid (B2.out.kept hk (by simpa using HNC1B2.out.symm));replace C1:=hid hbx;replace R1:=hid (R1.out.kz hs);clear hk hs hbx;refine WE.done ?_;go_upto_region 2 with (fail)
 refine wp_region_S [(0,0),(1,0),(2,0),(3,0),(4,0),(5,1),(6,4)] fun wd hb=>?_;replace E:=hid (E.out.trans hb);replace B2:=hid (B2.out.up hb);replace C1:=hid (C1.out.up hb);replace R1:=hid (R1.out.up hb);clear hb;refine WE.p 6 (.pointer (some ⟨gC1,0,none⟩)) ?_;refine WE.q 7 (.bool g1) rfl (fun w' hk=>by have c0:=(C1.out.up hk).k 0;go_simp) ?_;refine WE.p 8 (.bool (!g1)) ?_;refine WE.p 9 (.pointer (some ⟨gC1,1,none⟩)) ?_;refine WE.q 10 (.slice A1 n1 c1) rfl (fun w' hk=>by have c1:=(C1.out.up hk).k 1;go_simp) ?_;simp only[pX];refine WE.call (d:=some 11) rfl rfl (by rfl) (f:=53) (args:=#[(.bool (!g1)),(.slice A1 n1 c1)]) (by go_simp) ?_;refine(rsign_n R1.out (Z:=-Z) (by omega) (fun h=>by rw[HS1.out,←decide_not];exact decide_eq_decide.2 (by omega))).mono ?_;rintro e wn ⟨vx,rfl,hx,hb⟩;obtain⟨g2,A2,n2,c2,rfl,hs2,hr2⟩:=hx.form;clear hx;refine⟨_,rfl,hb,?_⟩;replace E:=hid (E.out.trans hb);replace B2:=hid (B2.out.up hb);have HS2:=hid hs2;have R2:=hid hr2;clear hb hs2 hr2;simp only[pX];refine WE.store2 (g:=(w.heap.size+1)) (x:=.bool g2) (y:=.slice A2 n2 c2) (t:=24) rfl rfl (by rfl) (fun w hb=>?_) B2.out (by rfl) fun ws hk hs=>?_
 ·have c0:=hb.k 0;have f0:=hb.free 0;have c1:=hb.k 1;have f1:=hb.free 1;go_simp
 intro hbx;replace E:=hid (E.out.keptG hk (by simp));replace B2:=hid hbx;replace R2:=hid (R2.out.kz hs);clear hk hs hbx;refine WE.done ?_;have r0:=B2.out.cell (o:=0) (v:=.bool g2) rfl;have r1:=B2.out.cell (o:=1) (v:=.slice A2 n2 c2) rfl;go_wp2;exact bodyPost_ret (v:=.agg #[.bool g2,.slice A2 n2 c2]) (by simp[results,Tryz.results129,go_sem,r0,r1]) rfl ⟨_,rfl,IsZ.mk HS2.out R2.out,E.out⟩
set_option maxHeartbeats 1000000 in
theorem rAbs_w {w:World}{u:Value}{Z:Int}{j:Nat}(hu:Worth w u Z j):
 Calls Tryz.prog 31 #[u] w (GivesZ w (Z.natAbs:Int) j):=by
 obtain⟨g,A,n,c,rfl⟩:=hu.shape;have R:=hid hu;clear hu;go_enter Tryz.func31,Tryz.ntmps31
 go_upto_region 1 with (fail)
 obtain⟨E,B1,B2⟩:=open2 w #[.bool g,.slice A n c] 24 #[.bool false,.slice none 0 0] 24;replace R:=hid (R.out.up E.out);refine wp_region_S [(0,0),(1,1),(2,0),(3,0),(4,4)] fun wd hb=>?_;replace E:=hid (E.out.trans hb);replace B1:=hid (B1.out.up hb);replace B2:=hid (B2.out.up hb);replace R:=hid (R.out.up hb);clear hb;refine WE.q 3 (.agg #[.bool g,.slice A n c]) rfl (fun w' hk=>by have c0:=(B1.out.up hk).k 0;have c1:=(B1.out.up hk).k 1;go_simp) ?_;simp only[pX];refine WE.call (d:=some 4) rfl rfl (by rfl) (f:=56) (args:=#[(.agg #[.bool g,.slice A n c])]) (by go_simp) ?_;refine(rMay_w R.out).mono ?_;rintro e wn ⟨vx,rfl,hx,hb⟩;obtain⟨g1,A1,n1,c1,rfl,hs1,hr1⟩:=hx.form;clear hx;refine⟨_,rfl,hb,?_⟩;replace E:=hid (E.out.trans hb);replace B2:=hid (B2.out.up hb);have R1:=hid hr1;clear hb hs1 hr1;refine WE.q 5 (.slice A1 n1 c1) rfl (fun w' hk=>by have hf:∀w,(Instr.field 24 (.agg #[.bool g1,.slice A1 n1 c1]) 1).run Tryz.prog w=.ok (.slice A1 n1 c1) w:=(fun w=>by kernel_rfl);go_simp) ?_;refine WE.p 6 (.agg #[.bool false,.slice A1 n1 c1]) ?_;simp only[pX];refine WE.store2 (g:=(w.heap.size+1)) (x:=.bool false) (y:=.slice A1 n1 c1) (t:=24) rfl rfl (by rfl) (fun w hb=>?_) B2.out (by rfl) fun ws hk hs=>?_
 ·have c0:=hb.k 0;have f0:=hb.free 0;have c1:=hb.k 1;have f1:=hb.free 1;go_simp
 intro hbx;replace E:=hid (E.out.keptG hk (by simp));replace B2:=hid hbx;replace R1:=hid (R1.out.kz hs);clear hk hs hbx;refine WE.done ?_;have r0:=B2.out.cell (o:=0) (v:=.bool false) rfl;have r1:=B2.out.cell (o:=1) (v:=.slice A1 n1 c1) rfl;go_wp2;exact bodyPost_ret (v:=.agg #[.bool false,.slice A1 n1 c1]) (by simp[results,Tryz.results31,go_sem,r0,r1]) rfl ⟨_,rfl,IsZ.mk (by simp) R1.out,E.out⟩
end Go.Proofs.YtoenjbkmiphhoaaGreatDoor
