import Derived.Test.YtoenjbkmiphhoaaGreatDoorA34
import Derived.Test.YtoenjbkmiphhoaaGreatDoorA38
import Derived.Test.YtoenjbkmiphhoaaGreatDoorA39
import Derived.Test.YtoenjbkmiphhoaaGreatDoorA44
import Derived.Test.YtoenjbkmiphhoaaGreatDoorA48
import Derived.Test.YtoenjbkmiphhoaaGreatDoorA49
set_option linter.unusedSimpArgs false
set_option linter.unusedVariables false
namespace Go.Proofs.YtoenjbkmiphhoaaGreatDoor.Q
open Go.RowKit
theorem M.has1s_take {ks:List M.Tm}{k:Nat}{t:M.Tm}(h:ks[k]?=some t): M.has1s (ks.take (k+1))=(M.has1s (ks.take k)||M.has1 t):=by
 have e:∀a b:List M.Tm,M.has1s (a++b)=(M.has1s a||M.has1s b):=fun a b=>by
  induction a with
  | nil=>simp[M.has1s]
  | cons x r ih=>simp[M.has1s,ih,Bool.or_assoc]
 rw[List.take_add_one,h,e];simp[M.has1s]
theorem M.has1s_yes {ks:List M.Tm}{k:Nat}{t:M.Tm}(e:ks[k]?=some t)(h:M.has1 t=true): M.has1s ks=true:=by
 rcases hq:M.has1s ks with _|_
 ·rw[M.has1s_at hq e] at h;cases h
 ·rfl
open Go.RowKit
set_option maxHeartbeats 8000000 in
set_option maxRecDepth 20000 in
theorem pureL_n:∀(F:Nat) {l:List M.Tm} {v:Value} {w:World},M.kcnts l<F->Tms w l v->Calls Tryz.prog 41 #[v] w (GivesB w (!M.has1s l))
 | 0,_,_,_,hF,_=>absurd hF (Nat.not_lt_zero _)
 | F+1,l,v,w,hF,hl=>by
  obtain⟨A,c,rfl⟩:=hl.shape;obtain⟨-,hl2,hl3⟩:=hl.le;obtain⟨n,hn⟩:∃n,l.length=n:=⟨_,rfl⟩;rw[hn] at hl hl2 |-;have HK:=hid hl;have HN:=hid hn;have HI:=hid (show ∀(k:Nat) (u:M.Tm),l[k]?=some u->∀(v:Value) (w:World),Tms w u.kids v->Calls Tryz.prog 41 #[v] w (GivesB w (!M.has1s u.kids)) from fun k u hu v w h=>by
   have h1:=M.kcnts_at hu;have h2:M.kcnt u=1+M.kcnts u.kids:=by obtain⟨op,g,ls,nm,s,ks⟩:=u;rw[M.kcnt];rfl
   exact pureL_n F (by omega) h)
  obtain⟨z,hz⟩:∃z,(!M.has1s l)=z:=⟨_,rfl⟩;have HZ:=hid hz;rw[hz];clear hl hn hF hz;go_enter Tryz.func41,Tryz.ntmps41
  go_wp2_with fail
  go_loopw[7] (fun i wr=>∃k:Nat,k<=n/\i=.int .i64 k/\Hid (M.has1s (l.take k)=false/\Ext w wr)) (fun i _=>n-(intOf i).toNat)
  case atStart=>exact⟨0,Nat.zero_le _,rfl,by simp[M.has1s],Ext.refl _⟩
  case round=>
   obtain⟨k,hk,rfl,hR⟩:=hrel;have E:=hid hR.out.2;have HS:=hid hR.out.1;clear hR;rcases Nat.lt_or_ge k n with hlt|hge
   ·have hlt':(k:Int)<(n:Int):=by omega
    obtain⟨ad,t,N,nn,nc,B,d,rfl,ht,⟨c0,c1,c2,c3,c4,c5⟩,hit⟩:=(HK.out.up E.out).get hlt;have HU:=hid ht;have HT:=hid (show Tms wr t.kids (.slice B t.kids.length d) from by
     obtain⟨N',nn',nc',A',c',e,-,h2⟩:=hit;simp only[kv,Value.agg.injEq,Array.mk.injEq,List.cons.injEq,Value.slice.injEq,and_true,true_and] at e;obtain⟨-,rfl,rfl⟩:=e;exact h2)
    have HC:=hid (fun (w':World) (e:Ext wr w')=>HI.out k t ht _ w' (HT.out.up e));have HH:=hid (show M.has1 t=((decide (t.op=12)&&decide (t.sort=2))||decide (t.op=18)||M.has1s t.kids) from by obtain⟨op,g,ls,nm,s,ks⟩:=t;rw[M.has1];rfl);obtain⟨zk,hzk⟩:∃z,M.has1s t.kids=z:=⟨_,rfl⟩;rw[hzk] at HC HH;obtain⟨o1,ho1⟩:∃o,t.op=o:=⟨_,rfl⟩;obtain⟨o2,ho2⟩:∃o,t.g=o:=⟨_,rfl⟩;obtain⟨o3,ho3⟩:∃o,t.name=o:=⟨_,rfl⟩;obtain⟨o4,ho4⟩:∃o,t.sort=o:=⟨_,rfl⟩;obtain⟨o5,ho5⟩:∃o,t.kids.length=o:=⟨_,rfl⟩;rw[ho1] at c0 HH;rw[ho2] at c1;rw[ho3] at c3;rw[ho4] at c4 HH;rw[ho5] at c5 HC;have EB:=hid (Ext.alloc wr (.cells #[.int .i64 o1,.bool o2,.slice N nn nc,str o3,.int .i64 o4,.slice B o5 d] 27));have HB:=hid (Box.new wr #[.int .i64 o1,.bool o2,.slice N nn nc,str o3,.int .i64 o4,.slice B o5 d] 27);obtain⟨⟨b0,b1,b2,b3,b4,b5⟩,-,-⟩:=boxF6 HB.out;clear ht hit hzk ho1 ho2 ho3 ho4 ho5 HT;go_wp2_with fail
    refine(choice_n _).mono ?_;rintro e w3 ⟨rfl,hx⟩;have E3:=hid (EB.out.trans hx);replace HB:=hid (HB.out.up hx);clear hx b0 b1 b2 b3 b4 b5 EB;obtain⟨⟨b0,b1,b2,b3,b4,b5⟩,-,-⟩:=boxF6 HB.out
    by_cases h12:o1=12/\o4=2
    ·obtain⟨rfl,rfl⟩:=h12;rw[show (decide ((12:Int)=12)&&decide ((2:Int)=2))=true from rfl];go_wp2;go_ret;obtain rfl:false=z:=by rw[<-HZ.out,M.has1s_yes HU.out (by rw[HH.out];rfl)];rfl
     exact⟨rfl,E.out.trans E3.out⟩
    ·have HD:=hid (show (decide (o1=12)&&decide (o4=2))=false from by
      rw[Bool.and_eq_false_iff,decide_eq_false_iff_not,decide_eq_false_iff_not];rcases Classical.em (o1=12) with h|h
      ·exact .inr fun h2=>h12 ⟨h,h2⟩
      ·exact .inl h)
     rw[HD.out];clear h12
     by_cases h18:o1=18
     ·subst h18;go_wp2;go_ret;obtain rfl:false=z:=by rw[<-HZ.out,M.has1s_yes HU.out (by rw[HH.out];simp)];rfl
      exact⟨rfl,E.out.trans E3.out⟩
     ·have r18:(o1==18)=false:=by simpa using h18
      have H18:=hid h18;clear h18;cases zk
      ·go_wp2_with fail
       refine(HC.out _ E3.out).mono ?_;rintro e w4 ⟨rfl,hb⟩;have E4:=hid ((E.out.trans E3.out).trans hb);clear hb b0 b1 b2 b3 b4 b5;go_wp2_with fail
       go_roundw
       case rel=>exact⟨k+1,by omega,by simp,by rw[M.has1s_take HU.out,HS.out,HH.out,HD.out,decide_eq_false H18.out];rfl,E4.out⟩
       case measure=>simp[intOf];omega
      ·go_wp2_with fail
       refine(HC.out _ E3.out).mono ?_;rintro e w4 ⟨rfl,hb⟩;have E4:=hid ((E.out.trans E3.out).trans hb);clear hb b0 b1 b2 b3 b4 b5;go_wp2_with fail
       go_ret;obtain rfl:false=z:=by rw[<-HZ.out,M.has1s_yes HU.out (by rw[HH.out];simp)];rfl
       exact⟨rfl,E4.out⟩
   ·obtain rfl:k=n:=by omega
    go_wp2;go_ret;obtain rfl:true=z:=by rw[<-HZ.out,<-List.take_length (l:=l),HN.out,HS.out];rfl
    exact⟨rfl,E.out⟩
set_option maxHeartbeats 4000000 in
set_option maxRecDepth 20000 in
theorem pure_n {t:M.Tm}{v:Value}{w:World}(h:IsTm w t v): Calls Tryz.prog 18 #[v] w (GivesB w (!M.has1 t)):=by
 have HQ:=hid h;obtain⟨o1,o2,N,nn,nc,o3,o4,A,n,c,rfl⟩:=h.kvs;have e1:M.has1s [t]=M.has1 t:=by rw[M.has1s,M.has1s,Bool.or_false]
 have HB0:=hid (Box.new w #[.int .i64 o1,.bool o2,.slice N nn nc,str o3,.int .i64 o4,.slice A n c] 27);have E:=hid (Ext.alloc w (.cells #[.int .i64 o1,.bool o2,.slice N nn nc,str o3,.int .i64 o4,.slice A n c] 27));rw[<-e1];clear h e1;go_enter Tryz.func18,Tryz.ntmps18
 go_upto_region 1 with (fail)
 refine vwp_at (fun W'=>Box W' w.heap.size #[.int .i64 o1,.bool o2,.slice N nn nc,str o3,.int .i64 o4,.slice A n c] 27/\Ext w W') ⟨HB0.out,E.out⟩ ?_;clear HB0 E;intro W1 ⟨hb0,he⟩;obtain⟨g0,hg0⟩:∃k,w.heap.size=k:=⟨_,rfl⟩;rw[hg0] at hb0 |-;have E:=hid he;have HT:=hid (tms_one (HQ.out.up (E.out.trans (Ext.alloc W1 (.cells #[.int .i64 o1,.bool o2,.slice N nn nc,str o3,.int .i64 o4,.slice A n c] 27)))) (Box.new W1 #[.int .i64 o1,.bool o2,.slice N nn nc,str o3,.int .i64 o4,.slice A n c] 27));have E2:=hid (E.out.trans (Ext.alloc W1 (.cells #[.int .i64 o1,.bool o2,.slice N nn nc,str o3,.int .i64 o4,.slice A n c] 27)));obtain⟨⟨b0,b1,b2,b3,b4,b5⟩,-,-⟩:=boxF6 hb0;clear hb0 he hg0;go_wp2_with fail
 refine(pureL_n (M.kcnts [t]+1) (Nat.lt_succ_self _) HT.out).mono ?_;rintro e w2 ⟨rfl,hx⟩;clear b0 b1 b2 b3 b4 b5;have E3:=hid (E2.out.trans hx);clear hx;go_wp2_with fail
 go_ret;exact⟨rfl,E3.out⟩
open Go.RowKit
theorem field_sort (op:Int)(g:Bool)(N:Option Addr)(nn nc:Nat)(nm:List UInt8)(so:Int)(A:Option Addr)(n c:Nat)(w:World): (Instr.field 27 (kv op g N nn nc nm so A n c) 3).run Tryz.prog w=.ok (.int .i64 so) w:=by kernel_rfl
theorem M.fr4:M.frT 4 2=.mk 4 false [] [33,52] 2 []:=by kernel_rfl
theorem M.P_wd:(∀f∈M.mP,M.funWd f)/\∀f∈M.mP,M.fnWd 40 f:=by
 have e:M.mP=[M.constF [120] (M.vz 2 (-3))]:=by kernel_rfl
 rw[e];refine⟨fun f hf=>?_,fun f hf=>?_⟩<;>(rw[List.mem_singleton] at hf;subst hf)
 ·exact M.constF_wd (by decide) (by decide +kernel)
 ·exact⟨by decide +kernel,fun r hr=>by cases hr⟩
set_option maxHeartbeats 16000000 in
set_option maxRecDepth 20000 in
theorem pknown_g {w:World}(hT:TabL w)(hov:∀w' u mv,Ext w w'->IsTm w' M.aP u->StrIn w' M.mP mv->Calls Tryz.prog 21 #[u,mv,.int .i64 4] w' (GivesOv w' (M.overM (M.mRead M.mP) (M.lifted M.aP 4).2.cons))): Calls Tryz.prog 8 #[] w (GivesB w true):=by
 have HT:=hid (fun w' (e:Ext w w')=>hT.up e);have HOV:=hid hov;clear hT hov;go_enter Tryz.func8,Tryz.ntmps8
 go_upto_region 3 with (fail)
 refine vwp_at (fun W'=>∃g1 g2,IsTm W' M.aP (kv 18 false none 0 0 [] 2 (some ⟨g1,0,none⟩) 1 1)/\Box W' g2 #[.int .i64 18,.bool false,.slice none 0 0,str [],.int .i64 2,.slice (some ⟨g1,0,none⟩) 1 1] 27/\Ext w W'/\g1=w.heap.size+1/\g2=w.heap.size+1+1) ⟨_,_,?i1,?b1,?e1,rfl,rfl⟩ ?_
 case i1=>exact⟨none,0,0,_,1,rfl,LNum.nil _,(tms_one (t:=M.xP) ⟨none,0,0,none,0,rfl,LNum.nil _,Tms.nil _⟩ (Box.at_ (w:=w.alloc _) #[.int .i64 4,.bool false,.slice none 0 0,str [120],.int .i64 2,.slice none 0 0] 27 (by simp))).up (Ext.alloc _ _)⟩
 case b1=>exact Box.at_ (w:=(w.alloc _).alloc _) _ _ (by simp)
 case e1=>exact((Ext.alloc w _).trans (Ext.alloc _ _)).trans (Ext.alloc _ _)
 intro W ⟨g1,g2,hi,hb,he,hg1,hg2⟩;rw[<-hg2];have HI:=hid hi;have HB:=hid hb;have E:=hid he;obtain⟨⟨b0,b1,b2,b3,b4,b5⟩,-,-⟩:=boxF6 hb;clear hi hb he hg1 hg2;go_wp2_with fail
 have hrm:M.Room (M.kcnt M.aP) (M.ls0 4):=by rw[M.cnt_A];exact⟨⟨by decide,by decide⟩,by decide,by decide⟩
 have HRM:=hid hrm;refine(do_l HI.out M.few_A (by rw[M.cnt_A];decide) (HT.out _ E.out) hrm).mono ?_;rintro e w2 ⟨u,hv,rfl,hu,hh,hx⟩;rw[M.lifted_P,M.fr4] at hu;rw[M.next_P];have HU:=hid hu;obtain⟨N,nn,nc,A,c,rfl,-,-⟩:=hu;obtain⟨hA,hc,rfl⟩:=hh.shape;rw[M.held_P];replace HI:=hid (HI.out.up hx);replace HB:=hid (HB.out.up hx);replace E:=hid (E.out.trans hx);simp only[show (M.Tm.mk 4 false [] [33,52] 2 []).op=4 from rfl,show (M.Tm.mk 4 false [] [33,52] 2 []).g=false from rfl,show (M.Tm.mk 4 false [] [33,52] 2 []).name=[33,52] from rfl,show (M.Tm.mk 4 false [] [33,52] 2 []).sort=2 from rfl,show (M.Tm.mk 4 false [] [33,52] 2 []).kids.length=0 from rfl] at HU |-;clear hh hx b0 b1 b2 b3 b4 b5 hrm;go_upto_region 4 with (fail)
 refine vwp_at (fun W'=>Box W' w2.heap.size #[.int .i64 4,.bool false,.slice N nn nc,str [33,52],.int .i64 2,.slice A 0 c] 27/\Ext w2 W') ⟨Box.new w2 _ _,Ext.alloc _ _⟩ ?_;intro W4 ⟨hb3,he⟩;obtain⟨g3,hg3⟩:∃g,w2.heap.size=g:=⟨_,rfl⟩;rw[hg3] at hb3 |-;have HB3:=hid hb3;replace HI:=hid (HI.out.up he);replace HU:=hid (HU.out.up he);replace HB:=hid (HB.out.up he);replace E:=hid (E.out.trans he);clear hb3 he hg3;refine wp_region_D [(0,0),(1,1),(2,0),(3,1),(4,1),(5,0)] fun wd hb=>?_;replace HI:=hid (HI.out.up hb);replace HU:=hid (HU.out.up hb);replace HB:=hid (HB.out.up hb);replace HB3:=hid (HB3.out.up hb);replace E:=hid (E.out.trans hb);clear hb;refine WE.q 17 (kv 18 false none 0 0 [] 2 (some ⟨g1,0,none⟩) 1 1) rfl (fun w' hk=>by obtain⟨⟨c0,c1,c2,c3,c4,c5⟩,-,-⟩:=boxF6 (HB.out.up hk);go_simp) ?_;simp only[pX];refine WE.c 18 ((rOf_z (n:=-3) (by decide) (by decide) _).mono ?_);rintro e w5 ⟨v3,rfl,hv3,hx⟩;refine⟨_,rfl,hx,?_⟩;obtain⟨A3,n3,c3,rfl,hn3,-⟩:=hv3;obtain⟨bz,hbz⟩:∃b,decide ((-3:Int)<0)=b:=⟨_,rfl⟩;rw[hbz];have HV:=hid (show IsVl w5 (M.vz 2 (-3)) (vv 2 bz A3 n3 c3) from isVl_num hbz hn3);replace HI:=hid (HI.out.up hx);replace HU:=hid (HU.out.up hx);replace HB:=hid (HB.out.up hx);replace HB3:=hid (HB3.out.up hx);replace E:=hid (E.out.trans hx);clear hn3 hx hbz;simp only[pX];refine WE.p 19 (vv 2 bz A3 n3 c3) ?_;simp only[pX];refine WE.c 20 ((xPut_n (l:=[]) (nm:=[120]) (x:=M.vz 2 (-3)) (FnList.nil _) HV.out (fun g hg=>by cases hg) (by decide) (by decide)).mono ?_);rintro e w6 ⟨u6,rfl,hu6,hx⟩;refine⟨_,rfl,hx,?_⟩;have HP:=hid (show StrIn w6 M.mP u6 from⟨hu6,by decide +kernel,M.P_wd.1,M.P_wd.2⟩);obtain⟨A6,c6,rfl⟩:=hu6.shape;replace HI:=hid (HI.out.up hx);replace HU:=hid (HU.out.up hx);replace HB:=hid (HB.out.up hx);replace HB3:=hid (HB3.out.up hx);replace E:=hid (E.out.trans hx);clear hu6 hx HV;simp only[pX];refine WE.c 21 ((HOV.out _ _ _ E.out HI.out HP.out).mono ?_);rintro e w7 ⟨u7,rfl,hu7,hx,-⟩;refine⟨_,rfl,hx,?_⟩;have HL7:=hid hu7.list;obtain⟨A7,c7,rfl⟩:=hu7.list.shape;rw[M.over_len] at HL7 |-;replace HI:=hid (HI.out.up hx);replace HU:=hid (HU.out.up hx);replace HB:=hid (HB.out.up hx);replace HB3:=hid (HB3.out.up hx);replace E:=hid (E.out.trans hx);clear hu7 hx HP;simp only[pX];refine WE.p 6 (.slice A7 2 c7) ?_;simp only[pX];refine WE.done ?_;obtain⟨f7,hf7,he7⟩:∃f,(M.overM (M.mRead M.mP) (M.lifted M.aP 4).2.cons)[0]?=some f/\f.els=M.vz 2 3:=by have h:=M.over_els;rcases hq:(M.overM (M.mRead M.mP) (M.lifted M.aP 4).2.cons)[0]? with _|f<;>rw[hq] at h<;>simp at h;exact⟨f,rfl,h⟩
 obtain⟨ad,A1,n1,c1,B1,m1,d1,N1,nn1,nc1,rfl,⟨-,-,-,k5,k6⟩,-,-,hn7⟩:=HL7.out.get hf7;rw[he7] at k5 hn7;rw[show (M.vz 2 3).2.1=false from by decide] at k5;rw[Nat.zero_mul,Addr.add_zero'] at k5 k6;have HK5:=hid k5;have HK6:=hid k6;have HN7:=hid (show LNum w7 (.slice N1 nn1 nc1) (M.limbs 3) from hn7);clear hf7 he7 k5 k6 hn7 HL7;go_upto_region 5 with (fail)
 refine wp_region_D [(0,0),(1,0),(2,0),(3,0),(4,0),(5,0),(6,0),(7,0),(8,0),(9,0),(10,0),(11,0),(12,0),(13,0),(14,1),(15,0),(16,0),(17,0),(18,1),(19,0),(20,0),(21,0),(22,0),(23,0),(24,0),(25,0),(26,0),(27,0),(28,0),(29,0),(30,0),(31,0),(32,1),(33,1),(34,0),(35,0),(36,1),(37,0),(38,0),(39,0),(40,0)] fun wd2 hb=>?_;replace HI:=hid (HI.out.up hb);replace HU:=hid (HU.out.up hb);replace HB:=hid (HB.out.up hb);replace HB3:=hid (HB3.out.up hb);replace E:=hid (E.out.trans hb);replace HK5:=hid (hb.cell HK5.out);replace HK6:=hid (hb.cell HK6.out);replace HN7:=hid (HN7.out.up hb);clear hb;refine WE.p 22 (.pointer (some ⟨g3,3,none⟩)) ?_;simp only[pX];refine WE.q 23 (str [33,52]) rfl (fun w' hk=>by have ce:=(HB3.out.up hk).k 3;go_simp) ?_;simp only[pX];refine WE.p 24 (.bool true) ?_;simp only[pX];refine WE.p 25 (.bool true) ?_;simp only[pX];refine WE.p 26 (.slice hA 2 hc) ?_;simp only[pX];refine WE.p 27 (.int .i64 2) ?_;simp only[pX];refine WE.p 28 (.bool true) ?_;simp only[pX];refine WE.p 29 (.bool true) ?_;simp only[pX];refine WE.p 30 (.bool true) ?_;simp only[pX];refine WE.p 31 (.int .i64 5) ?_;simp only[pX];refine WE.p 32 (.bool true) ?_;simp only[pX];refine WE.p 33 (.bool true) ?_;simp only[pX];refine WE.p 34 (.bool true) ?_;simp only[pX];refine WE.q 35 (kv 4 false N nn nc [33,52] 2 A 0 c) rfl (fun w' hk=>by obtain⟨⟨c0,c1,c2,c3,c4,c5⟩,-,-⟩:=boxF6 (HB3.out.up hk);go_simp) ?_;simp only[pX];refine WE.c 36 ((pure_n HU.out).mono ?_);rintro e wn ⟨rfl,hx⟩;refine⟨_,rfl,hx,?_⟩;replace HI:=hid (HI.out.up hx);replace HU:=hid (HU.out.up hx);replace HB:=hid (HB.out.up hx);replace HB3:=hid (HB3.out.up hx);replace E:=hid (E.out.trans hx);replace HK5:=hid (hx.cell HK5.out);replace HK6:=hid (hx.cell HK6.out);replace HN7:=hid (HN7.out.up hx);clear hx;simp only[pX];rw[show M.has1 (.mk 4 false [] [33,52] 2 [])=false from by rw[<-M.fr4];exact M.has_P];refine WE.p 37 (.bool true) ?_;simp only[pX];refine WE.p 38 (.bool true) ?_;simp only[pX];refine WE.q 39 (kv 18 false none 0 0 [] 2 (some ⟨g1,0,none⟩) 1 1) rfl (fun w' hk=>by obtain⟨⟨c0,c1,c2,c3,c4,c5⟩,-,-⟩:=boxF6 (HB.out.up hk);go_simp) ?_;simp only[pX];refine WE.c 40 ((pure_n HI.out).mono ?_);rintro e wn ⟨rfl,hx⟩;refine⟨_,rfl,hx,?_⟩;replace HI:=hid (HI.out.up hx);replace HU:=hid (HU.out.up hx);replace HB:=hid (HB.out.up hx);replace HB3:=hid (HB3.out.up hx);replace E:=hid (E.out.trans hx);replace HK5:=hid (hx.cell HK5.out);replace HK6:=hid (hx.cell HK6.out);replace HN7:=hid (HN7.out.up hx);clear hx;simp only[pX];rw[M.has_A];refine WE.p 41 (.bool true) ?_;simp only[pX];refine WE.p 42 (.bool true) ?_;simp only[pX];refine WE.p 43 (.bool true) ?_;simp only[pX];refine WE.p 44 (.slice (some ad) 2 c7) ?_;simp only[pX];refine WE.p 45 (.int .i64 2) ?_;simp only[pX];refine WE.p 46 (.bool true) ?_;simp only[pX];refine WE.p 47 (.bool true) ?_;simp only[pX];refine WE.p 48 (.bool true) ?_;simp only[pX];refine WE.p 49 (.slice (some ad) 2 c7) ?_;simp only[pX];refine WE.p 50 (.pointer (some ad)) ?_;simp only[pX];refine WE.p 51 (.pointer (some ⟨ad.block,ad.off+4,none⟩)) ?_;simp only[pX];refine WE.p 52 (.pointer (some ⟨ad.block,ad.off+5,none⟩)) ?_;simp only[pX];refine WE.q 53 (.agg #[.bool false,.slice N1 nn1 nc1]) rfl (fun w' hk=>by have c5:=hk.cell HK5.out;have c6:=hk.cell HK6.out;go_simp) ?_;simp only[pX];refine WE.c 54 ((rOf_z (n:=3) (by decide) (by decide) _).mono ?_);rintro e wn ⟨v3,rfl,hv3,hx⟩;refine⟨_,rfl,hx,?_⟩;obtain⟨A8,n8,c8,rfl,hn8,-⟩:=hv3;replace HI:=hid (HI.out.up hx);replace HU:=hid (HU.out.up hx);replace HB:=hid (HB.out.up hx);replace HB3:=hid (HB3.out.up hx);replace E:=hid (E.out.trans hx);replace HK5:=hid (hx.cell HK5.out);replace HK6:=hid (hx.cell HK6.out);replace HN7:=hid (HN7.out.up hx);have HN8:=hid (show LNum wn (.slice A8 n8 c8) (M.limbs 3) from hn8);rw[show decide ((3:Int)<0)=false from rfl];clear hx hn8;simp only[pX];refine WE.c 55 ((equal_same (g:=false) HN7.out HN8.out).mono ?_);rintro e wm ⟨rfl,hx⟩;refine⟨_,rfl,hx,?_⟩;replace E:=hid (E.out.trans hx);clear hx;simp only[pX];refine WE.p 56 (.bool true) ?_;simp only[pX];refine WE.p 57 (.bool true) ?_;simp only[pX];refine WE.c 58 ((lFresh_n (n:=0) (s:=1) (by decide) _ (HT.out _ E.out).2).mono ?_);rintro e wl ⟨v9,rfl,hv9,hx⟩;refine⟨_,rfl,hx,?_⟩;obtain⟨N9,nn9,nc9,A9,c9,rfl,-,-⟩:=hv9;replace E:=hid (E.out.trans hx);clear hx;simp only[pX];obtain⟨nm9,hnm9⟩:∃x,(M.frT 0 1).name=x:=⟨_,rfl⟩;rw[hnm9];simp only[show (M.frT 0 1).op=4 from rfl,show (M.frT 0 1).g=false from rfl,show (M.frT 0 1).sort=1 from rfl,show (M.frT 0 1).kids.length=0 from rfl];refine WE.p 59 (.int .i64 1) ?_ (hy:=fun w' hk=>by go_simp;rw[field_sort];rfl);simp only[pX];refine WE.p 60 (.bool true) ?_;simp only[pX];refine WE.p 61 (.bool true) ?_;simp only[pX];refine WE.p 0 (.bool true) ?_;simp only[pX];refine WE.done ?_;clear HI HU HB HB3 HK5 HK6 HN7 HN8 hnm9;go_wp2_with fail
 go_ret;exact⟨rfl,E.out⟩
open Go.RowKit
def M.opA (op:Int): Bool:=decide (op=4)||decide (op=18)
theorem M.opA_two {op:Int}(h:M.opA op=true): op=4\/op=18:=by
 unfold M.opA at h;simpa using h
theorem termC_abs:TermC M.opA:=by
 refine⟨fun {ls op v w W K} hP h h1 h2 h3 h4 h5 h6=>?_,fun {l op v w} hP h h1=>?_,fun h=>by cases h⟩
 ·obtain rfl:op=18:=by
   rcases M.opA_two hP with rfl|rfl
   ·exact absurd h4 (by omega)
   ·rfl
  exact reck_abs h h1 h2 h3 (by
   rcases h4 with h4|⟨h4,-⟩|⟨h4,-⟩|⟨-,h4⟩|⟨h4,-⟩
   ·exact absurd h4 (by decide)
   ·exact absurd h4 (by decide)
   ·exact absurd h4 (by decide)
   ·exact h4
   ·exact absurd h4 (by decide)) h5
 ·exfalso;rcases M.opA_two hP with rfl|rfl<;>omega
theorem M.lift_A:∀c∈(M.lifted M.aP 4).2.cons,M.allOp M.opA c.2=true:=List.all_eq_true.1 (show ((M.lifted M.aP 4).2.cons.all fun c=>M.allOp M.opA c.2)=true by kernel_rfl)
theorem pknown_s {w:World}(hT:TabL w): Calls Tryz.prog 8 #[] w (GivesB w true):=
 pknown_g hT fun w' u mv e hu hm=>over_g termC_abs M.lift_A hu M.few_A (by rw[M.cnt_A];decide) (hT.up e) (by rw[M.cnt_A];exact⟨⟨by decide,by decide⟩,by decide,by decide⟩) hm (by decide +kernel)
open Go.RowKit
mutual
theorem M.all1_op:∀(t:M.Tm),M.all1 t=M.allOp M.opA t
 | .mk op g ls nm s ks=>by rw[M.all1,M.allOp,M.all1s_op ks];rfl
theorem M.all1s_op:∀(l:List M.Tm),M.all1s l=M.allOps M.opA l
 | []=>by rw[M.all1s,M.allOps]
 | t::r=>by rw[M.all1s,M.allOps,M.all1_op t,M.all1s_op r]
end
mutual
theorem M.all2_op:∀(t:M.Tm),M.all2 t=M.allOp2 M.opA2 t
 | .mk op g ls nm s ks=>by rw[M.all2,M.allOp2,M.all2s_op ks]
theorem M.all2s_op:∀(l:List M.Tm),M.all2s l=M.allOps2 M.opA2 l
 | []=>by rw[M.all2s,M.allOps2]
 | t::r=>by rw[M.all2s,M.allOps2,M.all2_op t,M.all2s_op r]
end
theorem xtermC_abs:XTermC M.opA2 where
 sum:=fun {L op v w W} hP h h1 h2 h3 h4 h5=>by
  exfalso
  rcases h5 with⟨rfl,-⟩|⟨rfl,h6⟩
  ·simp[M.opA2] at hP
  ·simp[M.opA2] at hP;omega
 neg:=fun _ _ _ _ _ h h1 h2=>xNumber_neg h h1 h2 rfl
 abs:=fun {x r v w W} hP=>by simp[M.opA2] at hP
 mul:=fun hP=>by simp[M.opA2] at hP
 div:=fun hP=>by simp[M.opA2] at hP
 mod:=fun hP=>by simp[M.opA2] at hP
 not_:=fun hP=>by simp[M.opA2] at hP
 and_:=fun {L v w} hP=>by simp[M.opA2] at hP
 or_:=fun _ h h1=>xTold_or h h1
 dist:=fun {L v w} hP=>by simp[M.opA2] at hP
 xor:=fun hP=>by simp[M.opA2] at hP
 imp:=fun hP=>by simp[M.opA2] at hP
 eq:=fun _ _ _ _ _ h h1 h2=>xTold_eq h h1 h2
 c19:=fun hP=>by simp[M.opA2] at hP
 c20:=fun _ _ _ _ _ h=>xTold_20 h
 c21:=fun _ _ _ _ _ h=>xTold_21 h
 c22:=fun hP=>by simp[M.opA2] at hP
theorem abs_p {n:Nat}{v:Int}{w:World}(hn:n<=255)(hv1:-32768<=v)(hv2:v<=32767)(hT:TabL w): Calls Tryz.prog 6 #[.int .u8 (n:Int),.int .i16 v] w (GivesB w true):=by
 refine abs_g hn hv1 hv2 hT (fun w' e=>pknown_s (hT.up e)) (fun k w' u mv h1 h2 e hu hm=>?_) (fun m l w' mv lv hm hnm hwd hl hf h2=>?_) (fun m t w' mv tv hm hnm hwd ht hf h2=>?_)
 ·have T:=M.tow_ok h1 h2;refine over_g termC_abs (fun c hc=>?_) hu T.few (Nat.le_trans T.cnt (by decide)) (hT.up e) (M.room0 (by decide) (by have:=T.cnt;omega) (by have:=T.cnt;omega)) hm (by rw[M.mX_list];exact Nat.le_trans (Nat.le_of_eq (List.length_singleton ..)) (by decide));rw[<-M.all1_op];exact List.all_eq_true.1 T.one c hc
 ·exact xTrue_g xtermC_abs (by decide) (by decide) (M.all2s_op l▸h2) hm hnm hwd hl hf
 ·exact xEval_g xtermC_abs (by decide) (by decide) (M.all2_op t▸h2) hm hnm hwd ht hf
open Go.ChangeShapes Go.WideShapes Go.ChangeAt Go.RowKit
theorem abs_i {a b:Int}{w:World}(ha:(Lit.int .u8 a).wf=true)(hb:(Lit.int .i16 b).wf=true)(hT:TabL w): Calls Tryz.prog 6 #[.int .u8 a,.int .i16 b] w (GivesB w true):=by
 have h1:0<=a/\a<=255:=by simpa [Lit.wf,IntKind.min,IntKind.max,IntKind.signed,IntKind.bits] using ha
 have h2:-32768<=b/\b<=32767:=by simpa [Lit.wf,IntKind.min,IntKind.max,IntKind.signed,IntKind.bits] using hb
 obtain⟨n,rfl⟩:∃n:Nat,a=(n:Int):=⟨a.toNat,by omega⟩;exact abs_p (by omega) h2.1 h2.2 hT
set_option maxRecDepth 100000 in
theorem liftAbs_lifted (os:Os)(started:os.Started)(H:Type)(enc:TypeId×Value->H):
 ReturnsInHanded {} Tryz.checked os 6 .any (fun w args=>(Rows.liftAbsSpec.pre enc Tryz.prog Tryz.f6 [] false w args/\laidMetH Tryz.prog laid4 w)/\sizedMet enc Tryz.prog Tryz.f6 (OpenSpec.ofChange Rows.liftAbsSpec) false w args)
  (Rows.liftAbsSpec.post enc Tryz.prog Tryz.f6 false true false false):=by
 refine returnsInHanded_of_change_and (C:=Tryz.checked) (X:=fun w _=>laidMetH Tryz.prog laid4 w) (fun _ _ _ hh h=>h.of_heap hh) own started (by kernel_rfl) Tryz.func6
  (ChangeSpec.witness_shaped (enc:=enc) (C:=Tryz.checked) (os:=os) (X:=fun w _=>laidMetH Tryz.prog laid4 w) false (World.doorLaid Tryz.prog 400 os) #[.int .u8 0,.int .i16 0] 8 rfl (World.shaped_of_RefB (by kernel_rfl) (by kernel_rfl)) (by kernel_rfl) (by kernel_rfl) (by kernel_rfl) (door_met os _)) ?_
 intro W base args ds gs before hval0 hW _ _ hL _;have hval:∀(j:Nat) t v,Tryz.f6.params[j]?=some t->args[j]?=some v->Value.okWide Tryz.prog W .any base t v:=hval0;have hW':=hW;obtain⟨p,q,hA0,hV,rfl,hfz,hnd⟩:=hW;have hA:DataW.TrodAll enc Tryz.prog W 0 (fun _=>true) true Tryz.f6.params.toList args.toList ds p:=hA0;rw[Tryz.params6] at hA hval;obtain⟨v0,vs0,d0,ds0,p0,q0,hargs,rfl,rfl,h0,r0⟩:=trodAll_cons hA;obtain⟨v1,vs1,d1,ds1,p1,q1,rfl,rfl,rfl,h1,r1⟩:=trodAll_cons r0;obtain⟨rfl,rfl,rfl⟩:=trodAll_nil r1;obtain rfl:args=#[v0,v1]:=by cases args;simp_all
 obtain⟨rfl,rfl⟩:=trodVars_none hV;obtain⟨a0,rfl,-,-,w0⟩:=open_int Tryz.underlying5 (hval 0 5 v0 rfl rfl) h0;obtain⟨a1,rfl,-,-,w1⟩:=open_int Tryz.underlying54 (hval 1 54 v1 rfl rfl) h1;have hT:=tab_of_laid hL;clear hA0 hval0 hL;refine(abs_i w0 w1 hT).mono fun e W' ⟨he,hg⟩=>?_;subst he;exact⟨_,rfl,law_post hW' rfl rfl (by kernel_rfl) (by kernel_rfl) hg⟩
set_option maxHeartbeats 8000000 in
theorem liftAbs_over:Rows.LiftAbsSaid:=by
 refine OpenClaim.holds_of_wide 6 Tryz.f6 rfl rfl rfl rfl rfl rfl rfl ⟨rfl,rfl,rfl,rfl,rfl⟩ rfl rfl rfl rfl rfl (by as_aux_lemma=>kernel_rfl) Tryz.func6 ?_
  (of_decide_eq_true (by as_aux_lemma=>kernel_rfl)) (by unfold Func.isWrapper;first|(rw[if_pos (by decide +kernel)];kernel_rfl)|(rw[if_neg (by decide +kernel)];exact⟨rfl,rfl⟩))
  (fun os started H enc _=>liftAbs_lifted os started H enc)
 unfold joinedFacts;simp only[Bool.and_eq_true]
 repeat' apply And.intro
 all_goals (as_aux_lemma=>kernel_rfl)
theorem liftAbs_named:Tryz.prog.funcNamed "mullion/mullionlaw13.LiftAbs"=some 6:=by kernel_rfl
theorem liftAbs_all:([5,54].all fun u=>!Tryz.prog.wantsStandIn u)=true:=by kernel_rfl
set_option maxHeartbeats 8000000 in
theorem liftAbs_card:Rows.LiftAbsCardSaid:=
 Claim7.holds_tied_plain_at .later [] [.data,.data,.data,.wider] true Rows.liftAbsCard.stood.harness false
  liftAbs_over (fun _ h=>by cases h) (by as_aux_lemma=>kernel_rfl) (fun _ h=>by cases h) liftAbs_row_tie rfl ⟨rfl,rfl⟩ (by as_aux_lemma=>kernel_rfl) rfl
  (fun f fn hf hfn=>by
   obtain rfl:f=6:=Option.some.inj (liftAbs_named.symm.trans hf) |>.symm;obtain rfl:fn=Tryz.f6:=(Option.some.inj (Tryz.func6.symm.trans hfn)).symm;exact⟨by as_aux_lemma=>kernel_rfl,fun j t ht=>by
    rw[Tryz.params6] at ht;have hm:t∈[5,54]:=by simpa using Array.mem_of_getElem? ht
    exact(show Tryz.prog.wantsStandIn t=false by simpa using List.all_eq_true.1 liftAbs_all t hm)⟩)
  (by as_aux_lemma=>kernel_rfl)
end Go.Proofs.YtoenjbkmiphhoaaGreatDoor.Q
