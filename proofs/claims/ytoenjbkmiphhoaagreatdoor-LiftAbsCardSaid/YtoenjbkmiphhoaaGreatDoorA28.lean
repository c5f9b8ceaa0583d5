/-
  Layer 12: contracts of package value: place, sameSig, of.
-/
import Derived.Test.YtoenjbkmiphhoaaGreatDoorA27
namespace Go.Proofs.YtoenjbkmiphhoaaGreatDoor.Q
set_option linter.unusedSimpArgs false
set_option linter.unusedVariables false
open Go.RowKit
abbrev placeFun:Value:=.func (.func 121) #[] #[]
set_option maxHeartbeats 1000000 in
theorem placeF_v {a b:List UInt8}{A B N:Option Addr}{n c m d nn nc:Nat}{rt es:Int}{eg:Bool}{w:World}{z:Int}(hz:Lib.compareBytes a b=z): Calls Tryz.prog 121 #[fv a A n c rt B m d es eg N nn nc,str b] w (fun e w'=>e=.returned (.int .i64 z)∧Ext w w'):=by
 have HC:=hid (fun w'=>show Calls Tryz.prog 122 #[str a,str b] w' (fun e w''=>e=.returned (.int .i64 z)∧w''=w') from by
  have:=Tryz.strings_Compare ⟨a.toArray⟩ ⟨b.toArray⟩ w';rw[show (⟨a.toArray⟩:ByteArray).data.toList=a from rfl,show (⟨b.toArray⟩:ByteArray).data.toList=b from rfl,hz] at this;exact this)
 have hb:=Box.new w #[str a,.slice A n c,.int .i64 rt,.slice B m d,.int .i64 es,.bool eg,.slice N nn nc] 65;obtain⟨⟨c0,c1,c2,c3,c4,c5,c6⟩,-⟩:=box7v hb;clear hz hb c1 c2 c3 c4 c5 c6;go_enter Tryz.func121,Tryz.ntmps121
 go_wp2_with fail
 refine(HC.out _).mono ?_;rintro e w' ⟨rfl,rfl⟩;go_wp2;go_ret;exact⟨rfl,Ext.alloc w _⟩
def GivesAtF (w:World)(nm:List UInt8)(l:List M.Fn)(e:Ending)(w':World): Prop:=∃(k:Nat) (b:Bool),e=.returned (.tuple #[.int .i64 (k:Int),.bool b])∧k≤l.length∧M.kPre nm (l.map M.Fn.sg) k∧M.kPost nm (l.map M.Fn.sg) k∧(b=true→∃f,l[k]?=some f∧f.sg.name=nm)∧(b=false→∀f,l[k]?=some f→f.sg.name≠nm)∧Ext w w'
set_option maxHeartbeats 16000000 in
set_option maxRecDepth 100000 in
theorem searchF_v {l:List M.Fn}{nm:List UInt8}{v:Value}{w:World}(h:FnList w l v)(ha:M.kAsc (l.map M.Fn.sg))(hlen:l.length≤1000000): Calls Tryz.prog 120 #[v,str nm,placeFun] w (GivesAtF w nm l):=by
 obtain⟨A,c,rfl⟩:=h.shape;obtain⟨hl1,hl2,hl3⟩:=h.le;obtain⟨n,hn⟩:∃n,l.length=n:=⟨_,rfl⟩;rw[hn] at h hl2 hlen ⊢;have HS:=hid h;have HA:=hid ha;have HN:=hid hn;clear h ha hn hl1;go_enter Tryz.func120,Tryz.ntmps120
 go_wp2_with fail
 go_loopw[9,10] (fun x9 x10 wr=>∃(a b:Nat),x9=.int .i64 (a:Int)∧x10=.int .i64 (b:Int)∧a≤b∧b≤n∧Hid (M.kPre nm (l.map M.Fn.sg) a∧M.kPost nm (l.map M.Fn.sg) b∧Ext w wr)) (fun x9 x10 _=>(intOf x10).toNat-(intOf x9).toNat)
 case atStart=>exact⟨0,n,rfl,rfl,Nat.zero_le _,Nat.le_refl _,fun j x hj=>by omega,fun j x hj hx=>(by have:=(List.getElem?_eq_some_iff.1 hx).1;rw[List.length_map,HN.out] at this;omega),Ext.refl _⟩
 case round=>
  obtain⟨a,b,rfl,rfl,hab,hbn,hR⟩:=hrel;have HP:=hid hR.out.1;have HQ:=hid hR.out.2.1;have E:=hid hR.out.2.2;clear hR
  by_cases hlt:a<b
  ·have hlt':(a:Int)<(b:Int):=by omega
   obtain⟨m,hm⟩:∃m:Nat,(a+b)/2=m:=⟨_,rfl⟩;have hmi:((a:Int)+(b:Int))/2=(m:Int):=by omega
   have hma:a≤m:=by omega
   have hmb:m<b:=by omega
   have hmn:m<n:=by omega
   have hmn':(m:Int)<(n:Int):=by omega
   have hw1:IntKind.i64.wrap ((a:Int)+(b:Int))=(a:Int)+(b:Int):=by rw[IntKind.wrap_i64];omega
   have hw2:IntKind.u64.wrap ((a:Int)+(b:Int))=(a:Int)+(b:Int):=by simp[IntKind.wrap,IntKind.bits,IntKind.signed];omega
   have hw3:IntKind.i64.wrap (m:Int)=(m:Int):=by rw[IntKind.wrap_i64];omega
   have hw4:IntKind.i64.wrap ((m:Int)+1)=(m:Int)+1:=by rw[IntKind.wrap_i64];omega
   clear hm;obtain⟨u,hu⟩:∃u,l[m]?=some u:=⟨_,List.getElem?_eq_getElem (by rw[HN.out];exact hmn)⟩;obtain⟨ad,A1,n1,c1,B,bm,d,N,nn,nc,rfl,⟨⟨r0,r1,r2⟩,r3,r4,r5,r6⟩,-⟩:=(HS.out.up E.out).at_ hu;have HU:=hid (show (l.map M.Fn.sg)[m]?=some u.sg by rw[List.getElem?_map,hu];rfl);obtain⟨z,hz⟩:∃z,Lib.compareBytes u.sg.name nm=z:=⟨_,rfl⟩;have HZ:=hid hz;have hzl:decide (z<0)=Go.Op.bytesLess u.sg.name nm:=by rw[←hz];exact M.cmpB_lt _ _
   have HR:=hid (And.intro r0 (And.intro r1 (And.intro r2 (And.intro r3 (And.intro r4 (And.intro r5 r6))))));clear hu hz r0 r1 r2 r3 r4 r5 r6;go_upto_region 4 with (fail)
   refine wp_region_S [(0,0),(1,0),(2,0),(3,0),(4,0),(5,0),(6,0)] fun wd hb=>?_;replace E:=hid (E.out.trans hb);have HRr:=hid (show _∧_∧_∧_∧_∧_∧_ from⟨hb.cell HR.out.1,hb.cell HR.out.2.1,hb.cell HR.out.2.2.1,hb.cell HR.out.2.2.2.1,hb.cell HR.out.2.2.2.2.1,hb.cell HR.out.2.2.2.2.2.1,hb.cell HR.out.2.2.2.2.2.2⟩);clear hb HR;refine WE.p 18 (.int .i64 (a:Int)) ?_;simp only[pX];refine WE.p 19 (.int .i64 (b:Int)) ?_;simp only[pX];refine WE.p 20 (.int .i64 ((a:Int)+(b:Int))) ?_;simp only[pX];refine WE.p 21 (.int .u64 ((a:Int)+(b:Int))) ?_;simp only[pX];refine WE.p 22 (.int .u64 (m:Int)) ?_;simp only[pX];refine WE.p 23 (.int .i64 (m:Int)) ?_;simp only[pX];refine WE.p 11 (.int .i64 (m:Int)) ?_;simp only[pX];refine WE.done ?_;obtain⟨q,hq⟩:∃q,Go.Op.bytesLess u.sg.name nm=q:=⟨_,rfl⟩;rw[hq] at hzl;have HBQ:=hid hq;clear hq;clear hw1 hw2 hmi;obtain⟨r0,r1,r2,r3,r4,r5,r6⟩:=HRr.out;go_wp2_with fail
   refine(placeF_v HZ.out).mono ?_;rintro e w2 ⟨rfl,hb⟩;replace E:=hid (E.out.trans hb);clear hb r0 r1 r2 r3 r4 r5 r6 HRr;cases q
   ·have HN2:=hid (M.kPost_from HA.out HU.out HBQ.out);go_wp2_with fail
    go_roundw
    case rel=>exact⟨a,m,by simp,by simp,by omega,by omega,HP.out,HN2.out,E.out⟩
    case measure=>simp[intOf];omega
   ·have HN2:=hid (M.kPre_upto HA.out HU.out HBQ.out);go_wp2_with fail
    go_roundw
    case rel=>exact⟨m+1,b,by simp,by simp,by omega,by omega,HN2.out,HQ.out,E.out⟩
    case measure=>simp[intOf];omega
  ·obtain rfl:a=b:=by omega
   rcases Nat.lt_or_ge a n with han|han
   ·have han':(a:Int)<(n:Int):=by omega
    obtain⟨u,hu⟩:∃u,l[a]?=some u:=⟨_,List.getElem?_eq_getElem (by rw[HN.out];exact han)⟩;obtain⟨ad,A1,n1,c1,B,bm,d,N,nn,nc,rfl,⟨⟨r0,r1,r2⟩,r3,r4,r5,r6⟩,-⟩:=(HS.out.up E.out).at_ hu;have HU:=hid hu;obtain⟨z,hz⟩:∃z,Lib.compareBytes u.sg.name nm=z:=⟨_,rfl⟩;have HZ:=hid hz;obtain⟨q,hq⟩:∃q,decide (u.sg.name=nm)=q:=⟨_,rfl⟩;have hzq:(z==0)=q:=by rw[dec_eqI,←hz,M.cmpB_eq,hq]
    have HQN:=hid hq;clear hu hz hq;go_wp2_with fail
    refine(placeF_v HZ.out).mono ?_;rintro e w2 ⟨rfl,hb⟩;replace E:=hid (E.out.trans hb);clear hb r0 r1 r2 r3 r4 r5 r6;go_wp2_with fail
    go_ret2
    refine⟨a,q,rfl,by rw[HN.out];exact hbn,HP.out,HQ.out,fun h=>⟨u,HU.out,by subst h;simpa using HQN.out⟩,fun h x hx=>?_,E.out⟩;rw[HU.out] at hx;injection hx with hx;subst hx;subst h;simpa using HQN.out
   ·obtain rfl:a=n:=by omega
    go_wp2_with fail
    go_ret2
    refine⟨a,false,rfl,by rw[HN.out];exact Nat.le_refl _,HP.out,HQ.out,fun h=>(by cases h),fun h x hx=>?_,E.out⟩;have:=(List.getElem?_eq_some_iff.1 hx).1;rw[HN.out] at this;omega
theorem place_v {l:List M.Fn}{nm:List UInt8}{v:Value}{w:World}(h:FnList w l v)(ha:M.kAsc (l.map M.Fn.sg))(hlen:l.length≤1000000): Calls Tryz.prog 78 #[v,str nm] w (GivesAtF w nm l):=by
 have HC:=hid (searchF_v (nm:=nm) h ha hlen);obtain⟨A,c,rfl⟩:=h.shape;obtain⟨n,hn⟩:∃n,l.length=n:=⟨_,rfl⟩;rw[hn] at HC ⊢;clear h ha hlen hn;go_enter Tryz.func78,Tryz.ntmps78
 go_wp2_with fail
 refine HC.out.mono ?_;rintro e w' ⟨k,b,rfl,hk⟩;have HK:=hid hk;clear hk HC;go_wp2;go_ret2
 exact⟨k,b,rfl,HK.out⟩
set_option maxHeartbeats 4000000 in
theorem sameSig_v {s s':M.Sg}{v v':Value}{w:World}(h:IsSg w s v)(h':IsSg w s' v'): Calls Tryz.prog 191 #[v,v'] w (GivesB w (decide (s=s'))):=by
 obtain⟨nm,ag,rt⟩:=s;obtain⟨nm',ag',rt'⟩:=s';obtain⟨A,c,rfl,hi⟩:=h;obtain⟨A',c',rfl,hi'⟩:=h';replace hi:Ints w ag (.slice A ag.length c):=hi;replace hi':Ints w ag' (.slice A' ag'.length c'):=hi';show Calls Tryz.prog 191 #[sgv nm A ag.length c rt,sgv nm' A' ag'.length c' rt'] w _;have HE:=hid (show ∀w',Ext w w'→Calls Tryz.prog 226 #[.slice A ag.length c,.slice A' ag'.length c'] w' (GivesB w' (decide (ag=ag'))) from fun w' e=>equalI_n (hi.up e) (hi'.up e));have hz:decide ((⟨nm,ag,rt⟩:M.Sg)=⟨nm',ag',rt'⟩)=(decide (nm=nm')&&(decide (ag=ag')&&decide (rt=rt'))):=by
  rw[Bool.eq_iff_iff];simp
 rw[hz];obtain⟨n,hn⟩:∃n,ag.length=n:=⟨_,rfl⟩;obtain⟨n',hn'⟩:∃n,ag'.length=n:=⟨_,rfl⟩;obtain⟨q,hq⟩:∃q,decide (ag=ag')=q:=⟨_,rfl⟩;rw[hn,hn',hq] at HE;rw[hn,hn',hq];have HB1:=hid (show Box ((w.alloc (.cells #[str nm,.slice A n c,.int .i64 rt] 62)).alloc (.cells #[str nm',.slice A' n' c',.int .i64 rt'] 62)) w.heap.size #[str nm,.slice A n c,.int .i64 rt] 62 from(Box.new w _ _).alloc _);have HB2:=hid (show Box ((w.alloc (.cells #[str nm,.slice A n c,.int .i64 rt] 62)).alloc (.cells #[str nm',.slice A' n' c',.int .i64 rt'] 62)) (w.heap.size+1) #[str nm',.slice A' n' c',.int .i64 rt'] 62 from Box.at_ (w:=w.alloc (.cells #[str nm,.slice A n c,.int .i64 rt] 62)) _ _ (by simp));clear hi hi' hz hn hn' hq
 by_cases h1:nm=nm'
 case neg=>
  rw[decide_eq_false h1,Bool.false_and];go_enter Tryz.func191,Tryz.ntmps191
  go_wp2;go_ret;exact⟨rfl,alloc_two w _ _⟩
 case pos=>
 subst h1;rw[decide_eq_true rfl,Bool.true_and];cases q
 ·rw[Bool.false_and];go_enter Tryz.func191,Tryz.ntmps191
  go_wp2_with fail
  refine(HE.out _ (alloc_two w _ _)).mono ?_;rintro e w1 ⟨rfl,hb⟩;go_wp2;go_ret;exact⟨rfl,(alloc_two w _ _).trans hb⟩
 ·rw[Bool.true_and];obtain⟨q,hq⟩:∃q,decide (rt=rt')=q:=⟨_,rfl⟩;have hq2:(rt==rt')=q:=by rw[dec_eqI,hq]
  rw[hq];clear hq;go_enter Tryz.func191,Tryz.ntmps191
  go_wp2_with fail
  refine(HE.out _ (alloc_two w _ _)).mono ?_;rintro e w1 ⟨rfl,hb⟩;obtain⟨a0,a1,a2⟩:=box3b (HB1.out.up hb);obtain⟨b0,b1,b2⟩:=box3b (HB2.out.up hb);have E:=hid ((alloc_two w _ _).trans hb);clear hb;go_wp2;go_ret;exact⟨rfl,E.out⟩
theorem M.vSames_len:∀{l s:List M.Vl},l.length≠s.length→M.vSames l s=false
 | [],[],h=>absurd rfl h
 | [],_::_,_=>rfl
 | _::_,[],_=>rfl
 | x::r,y::q,h=>by rw[M.vSames,M.vSames_len (l:=r) (s:=q) (by simpa using h),Bool.and_false]
theorem M.vSames_take:∀{l s:List M.Vl} {k:Nat} {x y:M.Vl},l[k]?=some x→s[k]?=some y→M.vSames (l.take (k+1)) (s.take (k+1))=(M.vSames (l.take k) (s.take k)&&M.vSame x y)
 | [],_,_,_,_,h,_=>by simp at h
 | _::_,[],_,_,_,_,h=>by simp at h
 | a::r,b::q,0,x,y,h,k=>by
  simp at h k;subst h k;simp[M.vSames]
 | a::r,b::q,n+1,x,y,h,k=>by
  have:=M.vSames_take (l:=r) (s:=q) (k:=n) (x:=x) (y:=y) (by simpa using h) (by simpa using k);rw[List.take_succ_cons,List.take_succ_cons,List.take_succ_cons,List.take_succ_cons,M.vSames,M.vSames,this,Bool.and_assoc]
theorem M.vSames_no:∀{l s:List M.Vl} {k:Nat} {x y:M.Vl},l[k]?=some x→s[k]?=some y→M.vSame x y=false→M.vSames l s=false
 | [],_,_,_,_,h,_,_=>by simp at h
 | _::_,[],_,_,_,_,h,_=>by simp at h
 | a::r,b::q,0,x,y,h,k,hf=>by
  simp at h k;subst h k;rw[M.vSames,hf];rfl
 | a::r,b::q,n+1,x,y,h,k,hf=>by
  rw[M.vSames,M.vSames_no (l:=r) (s:=q) (k:=n) (by simpa using h) (by simpa using k) hf,Bool.and_false]
abbrev sameFunV:Value:=.func (.func 193) #[] #[]
set_option maxHeartbeats 4000000 in
theorem equalVV_n {v u:Value}{l s:List M.Vl}{w:World}(h:VList w v l)(hs:VList w u s): Calls Tryz.prog 192 #[v,u,sameFunV] w (GivesB w (M.vSames l s)):=by
 obtain⟨A,n,c,rfl⟩:=h.shape;obtain⟨hn,hl2,hl3⟩:=h.count;obtain⟨B,m,d,rfl⟩:=hs.shape;obtain⟨hm,hm2,hm3⟩:=hs.count;obtain⟨R,hRR⟩:∃R,M.vSames l s=R:=⟨_,rfl⟩;rw[hRR];have HRR:=hid hRR;have HL:=hid h;have HS:=hid hs;have HN:=hid hn.symm;have HM:=hid hm.symm;clear h hs hRR hm hn
 by_cases hnm:n=m
 case neg=>
  have hne:((n:Int) != (m:Int))=true:=by simp;omega
  have HF:=hid (show R=false from HRR.out.symm.trans (M.vSames_len (by rw[HN.out,HM.out];exact hnm)));clear hnm;go_enter Tryz.func192,Tryz.ntmps192
  go_wp2;go_ret;exact⟨by rw[HF.out];rfl,Ext.refl _⟩
 case pos=>
 subst hnm;go_enter Tryz.func192,Tryz.ntmps192
 go_wp2_with fail
 go_loopw[17] (fun i wr=>∃k:Nat,k≤n∧i=.int .i64 k∧Hid (M.vSames (l.take k) (s.take k)=true∧Ext w wr)) (fun i _=>n-(intOf i).toNat)
 case atStart=>exact⟨0,Nat.zero_le _,rfl,by simp[M.vSames],Ext.refl _⟩
 case round=>
  obtain⟨k,hk,rfl,hR⟩:=hrel;have E:=hid hR.out.2;have HT:=hid hR.out.1;clear hR;rcases Nat.lt_or_ge k n with hlt|hge
  ·have hlt':(k:Int)<(n:Int):=by omega
   obtain⟨x,hx⟩:∃x,l[k]?=some x:=⟨_,List.getElem?_eq_getElem (by rw[HN.out];exact hlt)⟩;obtain⟨y,hy⟩:∃y,s[k]?=some y:=⟨_,List.getElem?_eq_getElem (by rw[HM.out];exact hlt)⟩;obtain⟨ad,N,nn,nc,rfl,⟨c0,c1,c2⟩,hv⟩:=(HL.out.up E.out).at_ hx;have EB:=hid (Ext.alloc wr (.cells #[.int .i64 x.1,.bool x.2.1,.slice N nn nc] 45));obtain⟨bd,N',nn',nc',rfl,⟨e0,e1,e2⟩,hv'⟩:=((HS.out.up E.out).up EB.out).at_ hy;have HX:=hid hx;have HY:=hid hy;obtain⟨q,hq⟩:∃q,M.vSame x y=q:=⟨_,rfl⟩;have HC:=hid (show ∀w',Ext (wr.alloc (.cells #[.int .i64 x.1,.bool x.2.1,.slice N nn nc] 45)) w'→Calls Tryz.prog 193 #[vv x.1 x.2.1 N nn nc,vv y.1 y.2.1 N' nn' nc'] w' (GivesB w' q) from fun w' e=>hq▸same_v ((hv.up EB.out).up e) (hv'.up e));have HQ:=hid hq;have E2:=hid (alloc_two wr (.cells #[.int .i64 x.1,.bool x.2.1,.slice N nn nc] 45) (.cells #[.int .i64 y.1,.bool y.2.1,.slice N' nn' nc'] 45));obtain⟨⟨b0,b1,b2⟩,-,-⟩:=box3v ((Box.new wr #[.int .i64 x.1,.bool x.2.1,.slice N nn nc] 45).alloc (.cells #[.int .i64 y.1,.bool y.2.1,.slice N' nn' nc'] 45));obtain⟨⟨d0,d1,d2⟩,-,-⟩:=box3v (Box.at_ (w:=wr.alloc (.cells #[.int .i64 x.1,.bool x.2.1,.slice N nn nc] 45)) (g:=wr.heap.size+1) #[.int .i64 y.1,.bool y.2.1,.slice N' nn' nc'] 45 (by simp));clear hx hy hq hv hv';go_wp2_with fail
   refine(HC.out _ (Ext.alloc _ _)).mono ?_;rintro e w' ⟨rfl,hb⟩;replace E:=hid ((E.out.trans E2.out).trans hb);clear hb c0 c1 c2 b0 b1 b2 d0 d1 d2 e0 e1 e2 HC;cases q
   ·have HF:=hid (show R=false from HRR.out.symm.trans (M.vSames_no HX.out HY.out HQ.out));go_wp2;go_ret;exact⟨by rw[HF.out];rfl,E.out⟩
   ·go_wp2_with fail
    go_roundw
    case rel=>exact⟨k+1,by omega,by simp,by rw[M.vSames_take HX.out HY.out,HT.out,HQ.out];rfl,E.out⟩
    case measure=>simp[intOf];omega
  ·obtain rfl:k=n:=by omega
   have HF:=hid (show R=true by have h1:=HT.out;rw[←HN.out,List.take_length,HN.out,←HM.out,List.take_length] at h1;exact HRR.out.symm.trans h1);go_wp2;go_ret;exact⟨by rw[HF.out];rfl,E.out⟩
namespace M
theorem mOf_miss {l:List Fn}{s:Sg}(vs:List Vl)(ha:kAsc (l.map Fn.sg)){k:Nat}(hp:kPre s.name (l.map Fn.sg) k)(hq:kPost s.name (l.map Fn.sg) k)(hn:∀f,l[k]?=some f→f.sg.name≠s.name): mOf l s vs=(s.ret,false,[]):=by
 refine mOf_none vs fun j f hj e=>?_;have hj':(l.map Fn.sg)[j]?=some f.sg:=by rw[List.getElem?_map,hj];rfl
 rcases Nat.lt_trichotomy j k with h|h|h
 ·have:=hp j f.sg h hj';rw[e,less_irrefl] at this;cases this
 ·subst h;exact hn f hj e
 ·have hk:k<l.length:=by have:=(List.getElem?_eq_some_iff.1 hj).1;omega
  obtain⟨g,hg⟩:∃g,l[k]?=some g:=⟨_,List.getElem?_eq_getElem hk⟩;have hg':(l.map Fn.sg)[k]?=some g.sg:=by rw[List.getElem?_map,hg];rfl
  have h1:=ha k j g.sg f.sg h hg' hj';rw[e,hq k g.sg (Nat.le_refl _) hg'] at h1;cases h1
theorem fnSays_hit {f:Fn}{vs:List Vl}{k:Nat}{r:List Vl×Vl}(h:((f.rows.take k).any fun r=>vSames r.1 vs)=false)(hr:f.rows[k]?=some r)(hp:vSames r.1 vs=true): fnSays f vs=r.2:=by
 have e:(f.rows.find? fun r=>vSames r.1 vs)=some r:=by
  rw[←List.take_append_drop k f.rows,List.find?_append,drop_get hr];have h1:((f.rows.take k).find? fun r=>vSames r.1 vs)=none:=by
   rw[List.find?_eq_none];intro x hx;rw[List.any_eq_false] at h;exact h x hx
  rw[h1,List.find?_cons,hp];rfl
 unfold fnSays;rw[e]
theorem fnSays_miss {f:Fn}{vs:List Vl}(h:(f.rows.any fun r=>vSames r.1 vs)=false): fnSays f vs=f.els:=by
 have e:(f.rows.find? fun r=>vSames r.1 vs)=none:=by
  rw[List.find?_eq_none];intro x hx;rw[List.any_eq_false] at h;exact h x hx
 unfold fnSays;rw[e]
def fnWd (W:Nat)(f:Fn): Prop:=f.els.2.2.length≤W∧∀r∈f.rows,r.2.2.2.length≤W
theorem mOf_wdN {W:Nat}{l:List Fn}{s:Sg}(h:∀f∈l,f.sg.name=s.name→fnWd W f)(vs:List Vl): (mOf l s vs).2.2.length≤W:=by
 unfold mOf;rcases hq:(l.find? fun f=>decide (f.sg=s)) with _|f
 ·rw[hq];exact Nat.zero_le _
 ·have hf:=List.mem_of_find?_eq_some hq;have hs:f.sg=s:=by simpa using List.find?_some hq
  have h1:=h f hf (by rw[hs]);rw[hq];show ((match f.rows.find? fun r=>vSames r.1 vs with|some r=>r.2|none=>f.els):Vl).2.2.length≤W;rcases hr:(f.rows.find? fun r=>vSames r.1 vs) with _|r
  ·rw[hr];exact h1.1
  ·rw[hr];exact h1.2 r (List.mem_of_find?_eq_some hr)
theorem fnWd_le {W V:Nat}{f:Fn}(h:fnWd W f)(hv:W≤V): fnWd V f:=⟨Nat.le_trans h.1 hv,fun r hr=>Nat.le_trans (h.2 r hr) hv⟩
end M
theorem IsVl.sub {w w':World}{x:M.Vl}{v:Value}(h:IsVl w x v)(e:Sub w w'): IsVl w' x v:=by
 obtain⟨N,nn,nc,h1,h2⟩:=h;exact⟨N,nn,nc,h1,h2.sub e⟩
theorem GivesVN.plain {w w':World}{x:M.Vl}{e:Ending}(h:GivesVN w x e w'): GivesV w x e w':=by
 obtain⟨v,h1,h2,h3⟩:=h;exact⟨v,h1,h2.sub (gp_sub _ _),h3⟩
theorem own_p {x:M.Vl}{v:Value}{w:World}(h:IsVl w x v)(hl:x.2.2.length≤2000000): Calls Tryz.prog 119 #[v] w (GivesV w x):=(own_v h hl).mono fun _ _ h=>h.plain
theorem IsVl.put3 {w:World}{x:M.Vl}{v:Value}{k:Nat}{x0 x1 x2:Value}(h:IsVl w x v)(hb:Box w k zero3v 45): IsVl (put3v w k x0 x1 x2) x v:=by
 obtain⟨N,nn,nc,h1,h2⟩:=h;exact⟨N,nn,nc,h1,lnum_put3v h2 hb⟩
set_option maxHeartbeats 8000000 in
theorem of_v {l:List M.Fn}{s:M.Sg}{vs:List M.Vl}{v sv u:Value}{w:World}(h:FnList w l v)(ha:M.kAsc (l.map M.Fn.sg))(hs:IsSg w s sv)(hv:VList w u vs)(hlen:l.length≤1000000)(hwd:∀f∈l,M.fnWd 2000000 f):
 Calls Tryz.prog 158 #[v,sv,u] w (GivesV w (M.mOf l s vs)):=by
 obtain⟨A,c,rfl⟩:=h.shape;obtain⟨hl1,hl2,hl3⟩:=h.le;obtain⟨n,hn⟩:∃n,l.length=n:=⟨_,rfl⟩;rw[hn] at h hl2 hlen ⊢;obtain⟨nm,ag,rt⟩:=s;obtain⟨B,d,rfl,hi⟩:=hs;replace hi:Ints w ag (.slice B ag.length d):=hi;obtain⟨m,hm⟩:∃m,ag.length=m:=⟨_,rfl⟩;show Calls Tryz.prog 158 #[.slice A n c,sgv nm B ag.length d rt,u] w _;obtain⟨C,p,q,rfl⟩:=hv.shape;have HL:=hid h;have HA:=hid ha;have HN:=hid hn;have HW:=hid hwd;have HV:=hid hv;have HSG:=hid (show IsSg w ⟨nm,ag,rt⟩ (sgv nm B m d rt) from⟨B,d,by rw[hm],hi⟩);rw[hm];have HP:=hid (show ∀w',Ext w w'→Calls Tryz.prog 78 #[.slice A n c,str nm] w' (GivesAtF w' nm l) from fun w' e=>place_v (h.up e) ha (by rw[hn];exact hlen));obtain⟨R,hRR⟩:∃R,M.mOf l ⟨nm,ag,rt⟩ vs=R:=⟨_,rfl⟩;rw[hRR];have HRR:=hid hRR;have HB0:=hid (show Box ((w.alloc (.cells #[str nm,.slice B m d,.int .i64 rt] 62)).alloc (.cells zero3v 45)) w.heap.size #[str nm,.slice B m d,.int .i64 rt] 62 from(Box.new w _ _).alloc _);have HB1:=hid (show Box ((w.alloc (.cells #[str nm,.slice B m d,.int .i64 rt] 62)).alloc (.cells zero3v 45)) (w.heap.size+1) zero3v 45 from Box.at_ (w:=w.alloc (.cells #[str nm,.slice B m d,.int .i64 rt] 62)) _ _ (by simp));have E0:=hid (alloc_two w (.cells #[str nm,.slice B m d,.int .i64 rt] 62) (.cells zero3v 45));clear h ha hn hwd hv hi hm hRR hl1;go_enter Tryz.func158,Tryz.ntmps158
 go_upto_region 1 with (fail)
 refine vwp_at (fun W=>Box W w.heap.size #[str nm,.slice B m d,.int .i64 rt] 62∧Box W (w.heap.size+1) zero3v 45∧Ext w W) ⟨HB0.out,HB1.out,E0.out⟩ ?_;clear HB0 HB1 E0;intro W ⟨hb0,hb1,he⟩;obtain⟨g0,hg0⟩:∃g,w.heap.size=g:=⟨_,rfl⟩;have HG:=hid hg0;rw[hg0] at hb0 hb1 ⊢;have HB0:=hid hb0;have HB1:=hid hb1;have E:=hid he;clear hb0 hb1 he hg0;obtain⟨b0,b1,b2⟩:=box3b HB0.out;go_wp2_with fail
 refine(HP.out _ E.out).mono ?_;rintro e w1 ⟨k,b,rfl,hk1,hk2,hk3,hk4,hk5,hx⟩;replace E:=hid (E.out.trans hx);replace HB0:=hid (HB0.out.up hx);replace HB1:=hid (HB1.out.up hx);have HK1:=hid hk1;have HK2:=hid hk2;have HK3:=hid hk3;have HK4:=hid hk4;have HK5:=hid hk5;clear hk1 hk2 hk3 hk4 hk5 hx b0 b1 b2 HP;go_upto_region 2 with (fail)
 cases b
 ·refine wp_region_D [(0,0),(1,0),(2,0),(3,0),(4,0),(5,0),(6,0),(7,0),(8,0),(9,1),(10,0),(11,0)] fun wd hb=>?_;replace E:=hid (E.out.trans hb);replace HB0:=hid (HB0.out.up hb);replace HB1:=hid (HB1.out.up hb);clear hb;refine WE.p 18 (.bool false) ?_;simp only[pX];refine WE.p 19 (.bool true) ?_;simp only[pX];refine WE.p 20 (.bool true) ?_;simp only[pX];refine WE.s 21 ?_;simp only[pX];refine WE.s 22 ?_;simp only[pX];refine WE.s 23 ?_;simp only[pX];refine WE.s 24 ?_;simp only[pX];refine WE.s 25 ?_;simp only[pX];refine WE.s 26 ?_;simp only[pX];refine WE.t 27 ?_;simp only[pX];refine WE.s 28 ?_;simp only[pX];refine WE.p 29 (.bool true) ?_;simp only[pX];refine WE.done ?_;have HF:=hid (show R=(rt,false,[]) from HRR.out.symm.trans (M.mOf_miss (s:=⟨nm,ag,rt⟩) vs HA.out HK2.out HK3.out (HK5.out rfl)));obtain⟨b0,b1,b2⟩:=box3b HB0.out;obtain⟨⟨r0,r1,r2⟩,⟨f0,f1,f2⟩,hz⟩:=box3v HB1.out;go_wp2_with fail
  refine bodyPost_ret (v:=vv rt false none 0 0) (by simp[results,Tryz.results158,go_sem,r0,r1,r2,hz]) rfl ?_;rw[HF.out];exact⟨_,rfl,⟨none,0,0,rfl,LNum.nil _⟩,put3v_ext E.out (by rw[HG.out];omega)⟩
 obtain⟨f,hf,hfn⟩:=HK4.out rfl;have hkn:k<n:=by have:=(List.getElem?_eq_some_iff.1 hf).1;rw[HN.out] at this;exact this
 have hkn':(k:Int)<(n:Int):=by omega
 obtain⟨ad,A1,n1,c1,D,dm,dd,N,nn,nc,rfl,⟨⟨r0,r1,r2⟩,r3,r4,r5,r6⟩,hI,hRw,hNum⟩:=(HL.out.up E.out).get hf;have HR:=hid (And.intro r0 (And.intro r1 (And.intro r2 (And.intro r3 (And.intro r4 (And.intro r5 r6))))));have HFN:=hid (And.intro hf hfn);obtain⟨q1,hq1⟩:∃q,decide (f.sg=⟨nm,ag,rt⟩)=q:=⟨_,rfl⟩;have HQ1:=hid hq1;have hnl:=hI.le.1;have HC:=hid (show ∀w',Ext w1 w'→Calls Tryz.prog 191 #[sgv f.sg.name A1 n1 c1 f.sg.ret,sgv nm B m d rt] w' (GivesB w' q1) from fun w' e=>hq1▸sameSig_v (s:=f.sg) ⟨A1,c1,by rw[hnl],(show Ints w1 f.sg.args (.slice A1 f.sg.args.length c1) from hnl▸hI).up e⟩ (HSG.out.up (E.out.trans e)));have HRW:=hid hRw;have HEL:=hid (show IsVl w1 f.els (vv f.els.1 f.els.2.1 N nn nc) from⟨N,nn,nc,rfl,hNum⟩);have HM:=hid (show M.mOf l ⟨nm,ag,rt⟩ vs=if f.sg=⟨nm,ag,rt⟩ then M.fnSays f vs else (rt,false,[]) from M.mOf_at (s:=⟨nm,ag,rt⟩) vs HA.out hf hfn);have HWD:=hid (HW.out f (List.mem_of_getElem? hf));clear hf hfn r0 r1 r2 r3 r4 r5 r6 hI hRw hNum hq1 hnl HK2 HK3 HK4 HK5 HK1;refine wp_region_D [(0,0),(1,0),(2,0),(3,0),(4,0),(5,0),(6,0),(7,0),(8,0),(9,1),(10,0),(11,0)] fun wd hb=>?_;have E1:=hid hb;replace E:=hid (E.out.trans hb);replace HB0:=hid (HB0.out.up hb);replace HB1:=hid (HB1.out.up hb);clear hb;refine WE.p 18 (.bool true) ?_;simp only[pX];refine WE.p 19 (.bool false) ?_;simp only[pX];refine WE.p 20 (.bool false) ?_;simp only[pX];refine WE.p 21 (.slice (some ad) n c) ?_;simp only[pX];refine WE.p 22 (.int .i64 (k:Int)) ?_;simp only[pX];refine WE.q 23 (.pointer (some (ad.add (k*7)))) rfl (fun w' hk=>by go_simp) ?_;simp only[pX];refine WE.q 24 (.pointer (some (ad.add (k*7)))) rfl (fun w' hk=>by go_simp) ?_;simp only[pX];refine WE.q 25 (sgv f.sg.name A1 n1 c1 f.sg.ret) rfl (fun w' hk=>by
  have ee:=E1.out.trans hk;have x0:=ee.cell HR.out.1;have x1:=ee.cell HR.out.2.1;have x2:=ee.cell HR.out.2.2.1;go_simp) ?_
 simp only[pX];refine WE.q 26 (sgv nm B m d rt) rfl (fun w' hk=>by obtain⟨x0,x1,x2⟩:=box3b (HB0.out.up hk);go_simp) ?_;simp only[pX];refine WE.c 27 ((HC.out _ E1.out).mono ?_);rintro e w2 ⟨rfl,hb⟩;refine⟨_,rfl,hb,?_⟩;replace E:=hid (E.out.trans hb);replace E1:=hid (E1.out.trans hb);replace HB0:=hid (HB0.out.up hb);replace HB1:=hid (HB1.out.up hb);clear hb HC;simp only[pX];refine WE.p 28 (.bool (!q1)) ?_;simp only[pX];refine WE.p 29 (.bool (!q1)) ?_;simp only[pX];refine WE.done ?_;cases q1
 ·have HF:=hid (show R=(rt,false,[]) by rw[←HRR.out,HM.out,if_neg (by simpa using HQ1.out)]);obtain⟨b0,b1,b2⟩:=box3b HB0.out;obtain⟨⟨r0,r1,r2⟩,⟨f0,f1,f2⟩,hz⟩:=box3v HB1.out;go_wp2_with fail
  refine bodyPost_ret (v:=vv rt false none 0 0) (by simp[results,Tryz.results158,go_sem,r0,r1,r2,hz]) rfl ?_;rw[HF.out];exact⟨_,rfl,⟨none,0,0,rfl,LNum.nil _⟩,put3v_ext E.out (by rw[HG.out];omega)⟩
 have HRF:=hid (show R=M.fnSays f vs by rw[←HRR.out,HM.out,if_pos (by simpa using HQ1.out)]);obtain⟨hdm,hdm2,hdm3⟩:=HRW.out.le;have HDM:=hid hdm.symm;clear hdm HM HQ1 HRR HSG;have x0:=E1.out.cell HR.out.2.2.2.1;simp only[Bool.not_true];go_wp2_with fail
 clear x0;go_loopw[39] (fun i wr=>∃j:Nat,j≤dm∧i=.int .i64 j∧Hid (((f.rows.take j).any fun r=>M.vSames r.1 vs)=false∧Ext w2 wr)) (fun i _=>dm-(intOf i).toNat)
 case atStart=>exact⟨0,Nat.zero_le _,rfl,by simp,Ext.refl _⟩
 case round=>
  obtain⟨j,hj,rfl,hR⟩:=hrel;have HT:=hid hR.out.1;have E2:=hid hR.out.2;clear hR;have HBr:=hid (HB1.out.up E2.out);have Ew:=hid (E.out.trans E2.out);rcases Nat.lt_or_ge j dm with hlt|hge
  ·have hlt':(j:Int)<(dm:Int):=by omega
   obtain⟨r,hr⟩:∃r,f.rows[j]?=some r:=⟨_,List.getElem?_eq_getElem (by rw[HDM.out];exact hlt)⟩;obtain⟨bd,F,fp,fq,G,gn,gc,rfl,⟨s0,s1,s2,s3⟩,hvl,hnum⟩:=(HRW.out.up (E1.out.trans E2.out)).get hr;have HX:=hid hr;obtain⟨a1,ha1⟩:∃b,M.vSames r.1 vs=b:=⟨_,rfl⟩;have HA1:=hid ha1;have HC1:=hid (show ∀w',Ext wr w'→Calls Tryz.prog 192 #[.slice F fp fq,.slice C p q,sameFunV] w' (GivesB w' a1) from fun w' e=>ha1▸equalVV_n (hvl.up e) (HV.out.up (Ew.out.trans e)));have HC2:=hid (show ∀w',Ext wr w'→Calls Tryz.prog 119 #[vv r.2.1 r.2.2.1 G gn gc] w' (GivesV w' r.2) from fun w' e=>own_p (x:=r.2) ⟨G,gn,gc,rfl,LNum.up hnum e⟩ (HWD.out.2 r (List.mem_of_getElem? hr)));have EB:=hid (Ext.alloc wr (.cells #[.slice F fp fq,.int .i64 r.2.1,.bool r.2.2.1,.slice G gn gc] 69));have HRB:=hid (Box.new wr #[.slice F fp fq,.int .i64 r.2.1,.bool r.2.2.1,.slice G gn gc] 69);obtain⟨⟨b0,bb1,bb2,bb3⟩,-⟩:=box4v HRB.out;clear hr ha1 hvl hnum;go_wp2_with fail
   refine(HC1.out _ EB.out).mono ?_;rintro e w3 ⟨rfl,hx⟩;have E3:=hid (EB.out.trans hx);replace HRB:=hid (HRB.out.up hx);clear hx s0 s1 s2 s3 b0 bb1 bb2 bb3 HC1;cases a1
   ·clear HC2 HRB;go_wp2_with fail
    go_roundw
    case rel=>exact⟨j+1,by omega,by simp,by rw[M.any_take HX.out,HT.out,HA1.out];rfl,E2.out.trans E3.out⟩
    case measure=>simp[intOf];omega
   ·have HF:=hid (show R=r.2 from HRF.out.trans (M.fnSays_hit HT.out HX.out HA1.out));obtain⟨⟨b0,bb1,bb2,bb3⟩,-⟩:=box4v HRB.out;go_wp2_with fail
    refine(HC2.out _ E3.out).mono ?_;rintro e w4 ⟨v4,rfl,hv4,hx⟩;have E4:=hid ((Ew.out.trans E3.out).trans hx);have HB4:=hid (HBr.out.up (E3.out.trans hx));have HV4:=hid hv4;obtain⟨N4,n4,c4,rfl,-⟩:=hv4;obtain⟨⟨r0,r1,r2⟩,⟨f0,f1,f2⟩,hz⟩:=box3v HB4.out;clear hx b0 bb1 bb2 bb3 HC2;go_wp2_with fail
    refine bodyPost_ret (v:=vv r.2.1 r.2.2.1 N4 n4 c4) (by simp[results,Tryz.results158,go_sem,r0,r1,r2,hz]) rfl ?_;rw[HF.out];exact⟨_,rfl,HV4.out.put3 HB4.out,put3v_ext E4.out (by rw[HG.out];omega)⟩
  ·obtain rfl:j=dm:=by omega
   have HF:=hid (show R=f.els by have h1:=HT.out;rw[←HDM.out,List.take_length] at h1;exact HRF.out.trans (M.fnSays_miss h1));have ee:=E1.out.trans E2.out;have x4:=ee.cell HR.out.2.2.2.2.1;have x5:=ee.cell HR.out.2.2.2.2.2.1;have x6:=ee.cell HR.out.2.2.2.2.2.2;have HC2:=hid (own_p (HEL.out.up ee) HWD.out.1);clear ee;go_wp2_with fail
   refine HC2.out.mono ?_;rintro e w4 ⟨v4,rfl,hv4,hx⟩;have E4:=hid (Ew.out.trans hx);have HB4:=hid (HBr.out.up hx);have HV4:=hid hv4;obtain⟨N4,n4,c4,rfl,-⟩:=hv4;obtain⟨⟨r0,r1,r2⟩,⟨f0,f1,f2⟩,hz⟩:=box3v HB4.out;clear hx x4 x5 x6 HC2;go_wp2_with fail
   refine bodyPost_ret (v:=vv f.els.1 f.els.2.1 N4 n4 c4) (by simp[results,Tryz.results158,go_sem,r0,r1,r2,hz]) rfl ?_;rw[HF.out];exact⟨_,rfl,HV4.out.put3 HB4.out,put3v_ext E4.out (by rw[HG.out];omega)⟩
end Go.Proofs.YtoenjbkmiphhoaaGreatDoor.Q
