import Derived.Test.YtoenjbkmiphhoaaGreatDoorA28
import Derived.Test.YtoenjbkmiphhoaaGreatDoorA45
import Derived.Test.YtoenjbkmiphhoaaGreatDoorA44
import Derived.Test.YtoenjbkmiphhoaaGreatDoorA31
import Derived.Test.YtoenjbkmiphhoaaGreatDoorA29
import Derived.Test.YtoenjbkmiphhoaaGreatDoorA11
set_option linter.unusedSimpArgs false
set_option linter.unusedVariables false
namespace Go.Proofs.YtoenjbkmiphhoaaGreatDoor.Q
open Go.RowKit
set_option maxHeartbeats 2000000 in
theorem rSame_v {x y:M.Vl}{u v:Value}{w:World}(h:IsVl w x u)(k:IsVl w y v): Calls Tryz.prog 24 #[u,v] w (GivesB w (decide (x=y))):=by
 obtain⟨s,g,ls⟩:=x;obtain⟨s',g',ls'⟩:=y;obtain⟨N,nn,nc,rfl,hn⟩:=h;obtain⟨N',nn',nc',rfl,hn'⟩:=k;obtain⟨q,hq⟩:∃q,decide (g=g'/\ls=ls')=q:=⟨_,rfl⟩;have HZ:=hid (show decide ((s,g,ls)=(s',g',ls'))=(decide (s=s')&&q) by
  rw[<-hq,Bool.eq_iff_iff];simp)
 have HS:=hid (show ∀w',Ext w w'->Calls Tryz.prog 30 #[.agg #[.bool g,.slice N nn nc],.agg #[.bool g',.slice N' nn' nc']] w' (GivesB w' q) from fun w' e=>hq▸requal_n (LNum.up hn e) (LNum.up hn' e));rw[HZ.out];clear hq hn hn' HZ;show Calls Tryz.prog 24 #[vv s g N nn nc,vv s' g' N' nn' nc'] w _;have hb:=(Box.new w #[.int .i64 s,.bool g,.slice N nn nc] 45).alloc (.cells #[.int .i64 s',.bool g',.slice N' nn' nc'] 45);have hb':=Box.at_ (w:=w.alloc (.cells #[.int .i64 s,.bool g,.slice N nn nc] 45)) (g:=w.heap.size+1) #[.int .i64 s',.bool g',.slice N' nn' nc'] 45 (by simp);obtain⟨⟨c0,c1,c2⟩,-,-⟩:=box3v hb;obtain⟨⟨d0,d1,d2⟩,-,-⟩:=box3v hb';clear hb hb'
 by_cases hs:s=s'
 ·subst hs;have hbb:(s==s)=true:=by simp
  rw[show decide (s=s)=true by simp];go_enter Tryz.func24,Tryz.ntmps24
  go_wp2_with fail
  refine(HS.out _ (alloc_two w _ _)).mono ?_;rintro e w1 ⟨rfl,hx⟩;have E:=hid hx;clear hx c0 c1 c2 d0 d1 d2 HS;go_wp2;go_ret;exact⟨by rw[Bool.true_and];rfl,(alloc_two w _ _).trans E.out⟩
 ·have hbb:(s==s')=false:=by simpa using hs
  rw[show decide (s=s')=false by simpa using hs];clear HS hs;go_enter Tryz.func24,Tryz.ntmps24
  go_wp2;go_ret;exact⟨rfl,alloc_two w _ _⟩
theorem M.take_next {α:Type}{l s:List α}{k:Nat}{x y:α}(h:l.take k=s.take k)(hx:l[k]?=some x)(hy:s[k]?=some y)(e:x=y): l.take (k+1)=s.take (k+1):=by
 rw[List.take_add_one,List.take_add_one,h,hx,hy,e]
set_option maxHeartbeats 4000000 in
theorem rSameArgs_v {l s:List M.Vl}{u v:Value}{w:World}(h:VList w u l)(hs:VList w v s): Calls Tryz.prog 43 #[u,v] w (GivesB w (decide (l=s))):=by
 obtain⟨A,n,c,rfl⟩:=h.shape;obtain⟨hn,hl2,hl3⟩:=h.count;obtain⟨B,m,d,rfl⟩:=hs.shape;obtain⟨hm,hm2,hm3⟩:=hs.count;obtain⟨R,hRR⟩:∃R,decide (l=s)=R:=⟨_,rfl⟩;rw[hRR];have HRR:=hid hRR;have HL:=hid h;have HS:=hid hs;have HN:=hid hn.symm;have HM:=hid hm.symm;clear h hs hRR hm hn
 by_cases hnm:n=m
 case neg=>
  have hne:((n:Int) != (m:Int))=true:=by simp;omega
  have HF:=hid (show R=false from HRR.out.symm.trans (decide_eq_false (fun e=>hnm (by rw[<-HN.out,<-HM.out,e]))));clear hnm;go_enter Tryz.func43,Tryz.ntmps43
  go_wp2;go_ret;exact⟨by rw[HF.out];rfl,Ext.refl _⟩
 case pos=>
 subst hnm;go_enter Tryz.func43,Tryz.ntmps43
 go_wp2_with fail
 go_loopw[5] (fun i wr=>∃k:Nat,k<=n/\i=.int .i64 k/\Hid (l.take k=s.take k/\Ext w wr)) (fun i _=>n-(intOf i).toNat)
 case atStart=>exact⟨0,Nat.zero_le _,rfl,rfl,Ext.refl _⟩
 case round=>
  obtain⟨k,hk,rfl,hR⟩:=hrel;have E:=hid hR.out.2;have HT:=hid hR.out.1;clear hR;rcases Nat.lt_or_ge k n with hlt|hge
  ·have hlt':(k:Int)<(n:Int):=by omega
   obtain⟨x,hx⟩:∃x,l[k]?=some x:=⟨_,List.getElem?_eq_getElem (by rw[HN.out];exact hlt)⟩;obtain⟨y,hy⟩:∃y,s[k]?=some y:=⟨_,List.getElem?_eq_getElem (by rw[HM.out];exact hlt)⟩;obtain⟨ad,N,nn,nc,rfl,⟨c0,c1,c2⟩,hv⟩:=(HL.out.up E.out).at_ hx;obtain⟨bd,N',nn',nc',rfl,⟨e0,e1,e2⟩,hv'⟩:=(HS.out.up E.out).at_ hy;have HX:=hid hx;have HY:=hid hy;obtain⟨q,hq⟩:∃q,decide (x=y)=q:=⟨_,rfl⟩;have HC:=hid (show ∀w',Ext wr w'->Calls Tryz.prog 24 #[vv x.1 x.2.1 N nn nc,vv y.1 y.2.1 N' nn' nc'] w' (GivesB w' q) from fun w' e=>hq▸rSame_v (hv.up e) (hv'.up e));have HQ:=hid hq;have H1:=hid (And.intro c0 (And.intro c1 c2));have H2:=hid (And.intro e0 (And.intro e1 e2));clear hx hy hq hv hv' c0 c1 c2 e0 e1 e2;go_wp2_with fail
   refine wp_region_D [(0,0),(1,0),(2,0),(3,0),(4,0),(5,0),(6,0),(7,0),(8,1),(9,0)] fun wd hb=>?_;refine WE.p 17 (.slice (some ad) n c) ?_;simp only[pX];refine WE.p 18 (.int .i64 (k:Int)) ?_;simp only[pX];refine WE.q 19 (.pointer (some (ad.add (k*3)))) rfl (fun w' hk=>by go_simp) ?_;simp only[pX];refine WE.q 20 (vv x.1 x.2.1 N nn nc) rfl (fun w' hk=>by have x0:=(hb.trans hk).cell H1.out.1;have x1:=(hb.trans hk).cell H1.out.2.1;have x2:=(hb.trans hk).cell H1.out.2.2;go_simp) ?_;simp only[pX];refine WE.p 21 (.slice (some bd) n d) ?_;simp only[pX];refine WE.p 22 (.int .i64 (k:Int)) ?_;simp only[pX];refine WE.q 23 (.pointer (some (bd.add (k*3)))) rfl (fun w' hk=>by go_simp) ?_;simp only[pX];refine WE.q 24 (vv y.1 y.2.1 N' nn' nc') rfl (fun w' hk=>by have x0:=(hb.trans hk).cell H2.out.1;have x1:=(hb.trans hk).cell H2.out.2.1;have x2:=(hb.trans hk).cell H2.out.2.2;go_simp) ?_;simp only[pX];refine WE.c 25 ((HC.out _ hb).mono ?_);rintro e w5 ⟨rfl,hb5⟩;refine⟨_,rfl,hb5,?_⟩;replace E:=hid ((E.out.trans hb).trans hb5);clear hb hb5 H1 H2 HC;simp only[pX];refine WE.p 26 (.bool (!q)) ?_;simp only[pX];refine WE.done ?_;cases q
   ·have HF:=hid (show R=false from HRR.out.symm.trans (decide_eq_false (fun e=>by have h1:=HX.out;rw[e,HY.out] at h1;cases h1;exact of_decide_eq_false HQ.out rfl)));simp only[Bool.not_false];go_wp2;go_ret;exact⟨by rw[HF.out];rfl,E.out⟩
   ·simp only[Bool.not_true];go_wp2_with fail
    go_roundw
    case rel=>exact⟨k+1,by omega,by simp,M.take_next HT.out HX.out HY.out (of_decide_eq_true HQ.out),E.out⟩
    case measure=>simp[intOf];omega
  ·obtain rfl:k=n:=by omega
   have HF:=hid (show R=true by have h1:=HT.out;rw[<-HN.out,List.take_length,HN.out,<-HM.out,List.take_length] at h1;exact HRR.out.symm.trans (decide_eq_true h1));go_wp2;go_ret;exact⟨by rw[HF.out];rfl,E.out⟩
open Go.RowKit
theorem M.ksameS_eq {s t:M.Sg}(h:M.ksameS s t=true): s=t:=of_decide_eq_true h
theorem M.ksameS_ne {s t:M.Sg}(h:M.ksameS s t=false): s≠t:=of_decide_eq_false h
def M.canV (x:M.Vl): Prop:=M.isZ x.2.1 x.2.2=true
theorem M.vIs_can {x:M.Vl}{s:Int}(h:M.vIs x s=true): M.canV x:=by
 unfold M.vIs at h;simp only[Bool.and_eq_true] at h;exact h.2.1
theorem M.vSame_can {x y:M.Vl}(hx:M.canV x)(hy:M.canV y): M.vSame x y=decide (x=y):=by
 obtain⟨a1,a2⟩:=M.canon_isZ hx;obtain⟨b1,b2⟩:=M.canon_isZ hy;unfold M.vSame;rw[Bool.eq_iff_iff,Bool.and_eq_true,decide_eq_true_iff,decide_eq_true_iff,decide_eq_true_iff];constructor
 ·rintro⟨h1,h2⟩;rw[h2] at a1 a2;obtain⟨s,g,l⟩:=x;obtain⟨s',g',l'⟩:=y;simp only at h1 a1 a2 b1 b2;rw[h1,a1,a2,<-b1,<-b2]
 ·rintro rfl;exact⟨rfl,rfl⟩
theorem M.vSames_can:∀{l s:List M.Vl},(∀x∈l,M.canV x)->(∀x∈s,M.canV x)->M.vSames l s=decide (l=s)
 | [],[],_,_=>rfl
 | [],_::_,_,_=>rfl
 | _::_,[],_,_=>rfl
 | a::r,b::q,h,k=>by
  rw[M.vSames,M.vSame_can (h a (List.mem_cons_self ..)) (k b (List.mem_cons_self ..)),M.vSames_can (fun x hx=>h x (List.mem_cons_of_mem _ hx)) (fun x hx=>k x (List.mem_cons_of_mem _ hx))];rw[Bool.eq_iff_iff,Bool.and_eq_true,decide_eq_true_iff,decide_eq_true_iff,decide_eq_true_iff,List.cons.injEq]
theorem M.vIss_can:∀{l:List M.Vl} {s:List Int},M.vIss l s=true->∀x∈l,M.canV x
 | [],_,_,x,hx=>by cases hx
 | a::r,[],h,x,hx=>by rw[M.vIss_len (by simp)] at h;cases h
 | a::r,b::q,h,x,hx=>by
  rw[M.vIss,Bool.and_eq_true] at h;rcases List.mem_cons.1 hx with rfl|hx
  ·exact M.vIs_can h.1
  ·exact M.vIss_can h.2 x hx
theorem M.rows_can {f:M.Fn}(h:M.fnIs f=true){r:List M.Vl×M.Vl}(hr:r∈f.rows): ∀x∈r.1,M.canV x:=by
 unfold M.fnIs at h;rw[Bool.and_eq_true,Bool.and_eq_true] at h;have h3:=List.all_eq_true.1 h.2.2 r hr;rw[Bool.and_eq_true] at h3;exact M.vIss_can h3.1
theorem M.mOf_first {L:List M.Fn}{s:M.Sg}{vs:List M.Vl}{k:Nat}{f:M.Fn}(h:∀g∈L.take k,g.sg≠s)(hf:L[k]?=some f)(hs:f.sg=s): M.mOf L s vs=M.fnSays f vs:=by
 unfold M.mOf M.fnSays;have hk:=(List.getElem?_eq_some_iff.1 hf).1;have e:L.find? (fun f=>decide (f.sg=s))=some f:=by
  rw[<-List.take_append_drop k L,List.find?_append,List.find?_eq_none.2 (fun g hg=>by simpa using h g hg),Option.none_or,M.drop_get hf,List.find?_cons,decide_eq_true hs]
 rw[e];rfl
theorem M.mOf_nowhere {L:List M.Fn}{s:M.Sg}{vs:List M.Vl}(h:∀g∈L,g.sg≠s): M.mOf L s vs=(s.ret,false,[]):=by
 unfold M.mOf;rw[List.find?_eq_none.2 (fun g hg=>by simpa using h g hg)]
theorem M.says_first {f:M.Fn}{vs:List M.Vl}(hc:M.fnIs f=true)(hv:∀x∈vs,M.canV x){k:Nat}{r:List M.Vl×M.Vl}(h:∀q∈f.rows.take k,q.1≠vs)(hr:f.rows[k]?=some r)(e:r.1=vs): M.fnSays f vs=r.2:=by
 refine M.fnSays_hit (k:=k) ?_ hr ?_
 ·rw[List.any_eq_false];intro q hq;rw[M.vSames_can (M.rows_can hc (List.mem_of_mem_take hq)) hv];simpa using h q hq
 ·rw[M.vSames_can (M.rows_can hc (List.mem_of_getElem? hr)) hv];simpa using e
theorem M.says_else {f:M.Fn}{vs:List M.Vl}(hc:M.fnIs f=true)(hv:∀x∈vs,M.canV x)(h:∀q∈f.rows,q.1≠vs): M.fnSays f vs=f.els:=by
 refine M.fnSays_miss ?_;rw[List.any_eq_false];intro q hq;rw[M.vSames_can (M.rows_can hc hq) hv];simpa using h q hq
theorem M.read_is {l:List M.Fn}{f:M.Fn}(hf:f∈M.mRead l): M.fnIs f=true:=by
 unfold M.mRead at hf
 split at hf
 ·rename_i h
  obtain⟨k,hk⟩:=List.getElem?_of_mem hf;exact M.mIs_fn h hk
 ·cases hf
theorem M.nx_ {α:Type}{P:α->Prop}{l:List α}{k:Nat}{y:α}(h:∀x∈l.take k,P x)(hy:l[k]?=some y)(hp:P y): ∀x∈l.take (k+1),P x:=by
 intro x hx;rw[List.take_add_one,hy,Option.toList_some,List.mem_append] at hx;rcases hx with hx|hx
 ·exact h x hx
 ·obtain rfl:x=y:=by simpa using hx
  exact hp
set_option maxHeartbeats 40000000 in
set_option maxRecDepth 20000 in
theorem xOf_n {l:List M.Fn}{s:M.Sg}{vs:List M.Vl}{mv sv u:Value}{w:World}(h:FnList w l mv)(hl:∀f∈l,f.sg.name.length<=1000000000000)(hs:IsSg w s sv)(hv:VList w u vs)(hc:∀x∈vs,M.canV x): Calls Tryz.prog 85 #[mv,sv,u] w (GivesV w (M.mOf (M.mRead l) s vs)):=by
 obtain⟨X,hX⟩:∃X,M.mOf (M.mRead l) s vs=X:=⟨_,rfl⟩;rw[hX];have hs':=hs;obtain⟨B,d,rfl,hsi⟩:=hs;obtain⟨VA,vn,vc,rfl⟩:=hv.shape;have HMAY:=hid (show ∀w',Ext w w'->Calls Tryz.prog 50 #[mv] w' (fun e w''=>∃u,e=.returned u/\FnList w' (M.mRead l) u/\Ext w' w'') from fun w' e=>xMay_n (h.up e) hl);have HSS:=hid (show ∀(f:M.Fn) w' A1 n1 c1,Ext w w'->Ints w' f.sg.args (.slice A1 n1 c1)->Calls Tryz.prog 42 #[sgv f.sg.name A1 n1 c1 f.sg.ret,sgv s.name B s.args.length d s.ret] w' (GivesB w' (M.ksameS f.sg s)) from fun f w' A1 n1 c1 e hi=>by
  have hn:=hi.le.1;exact kSameSig_n (s:=f.sg) (s':=s) ⟨A1,c1,by rw[hn],hn▸hi⟩ (hs'.up e))
 have HSA:=hid (show ∀(r:List M.Vl) w' v',Ext w w'->VList w' v' r->Calls Tryz.prog 43 #[v',.slice VA vn vc] w' (GivesB w' (decide (r=vs))) from fun r w' v' e hr=>rSameArgs_v hr (hv.up e));obtain⟨MA,mc,rfl⟩:=h.shape;obtain⟨ml,hml⟩:∃n,l.length=n:=⟨_,rfl⟩;rw[hml] at HMAY |-;obtain⟨L,hL⟩:∃L,M.mRead l=L:=⟨_,rfl⟩;have HFI:=hid (show ∀f∈L,M.fnIs f=true from fun f hf=>M.read_is (hL▸hf));rw[hL] at HMAY hX;obtain⟨sn,hsn⟩:∃x,s.name=x:=⟨_,rfl⟩;obtain⟨sa,hsa⟩:∃x,s.args.length=x:=⟨_,rfl⟩;obtain⟨sr,hsr⟩:∃x,s.ret=x:=⟨_,rfl⟩;rw[hsn,hsa,hsr] at HSS;have HSR:=hid hsr;have HX:=hid hX;have HCV:=hid hc;show Calls Tryz.prog 85 #[.slice MA ml mc,sgv s.name B s.args.length d s.ret,.slice VA vn vc] w _;rw[hsn,hsa,hsr];have HB0:=hid (show Box ((w.alloc (.cells #[str sn,.slice B sa d,.int .i64 sr] 62)).alloc (.cells zero3v 45)) w.heap.size #[str sn,.slice B sa d,.int .i64 sr] 62 from(Box.new w _ _).alloc _);have HB1:=hid (show Box ((w.alloc (.cells #[str sn,.slice B sa d,.int .i64 sr] 62)).alloc (.cells zero3v 45)) (w.heap.size+1) zero3v 45 from Box.at_ (w:=w.alloc (.cells #[str sn,.slice B sa d,.int .i64 sr] 62)) _ _ (by simp));have E0:=hid (alloc_two w (.cells #[str sn,.slice B sa d,.int .i64 sr] 62) (.cells zero3v 45));clear h hl hs' hsi hv hc hml hL hX hsn hsa hsr;go_enter Tryz.func85,Tryz.ntmps85
 go_upto_region 1 with (fail)
 refine vwp_at (fun W=>Box W w.heap.size #[str sn,.slice B sa d,.int .i64 sr] 62/\Box W (w.heap.size+1) zero3v 45/\Ext w W) ⟨HB0.out,HB1.out,E0.out⟩ ?_;clear HB0 HB1 E0;intro W ⟨hb0,hb1,he⟩;obtain⟨g0,hg0⟩:∃g,w.heap.size=g:=⟨_,rfl⟩;have HG:=hid (show w.heap.size<=g0+1 by omega);rw[hg0] at hb0 hb1 |-;have HB0:=hid hb0;have HB1:=hid hb1;have E:=hid he;clear hb0 hb1 he hg0;go_wp2_with fail
 refine(HMAY.out _ E.out).mono ?_;rintro e w1 ⟨v1,rfl,hf1,hx⟩;obtain⟨LA,lc,rfl⟩:=hf1.shape;obtain⟨n,hn⟩:∃n,L.length=n:=⟨_,rfl⟩;rw[hn] at hf1 |-;have HLL:=hid (hf1.up hx);have hle:=hf1.le.2;have HN:=hid hn;replace E:=hid (E.out.trans hx);replace HB0:=hid (HB0.out.up hx);replace HB1:=hid (HB1.out.up hx);clear hx hf1 hn HMAY;go_wp2_with fail
 go_loopw[8,9] (fun i _ wr=>∃k:Nat,k<=n/\i=.int .i64 k/\Hid ((∀g∈L.take k,g.sg≠s)/\Ext w1 wr)) (fun i _ _=>n-(intOf i).toNat)
 case atStart=>exact⟨0,Nat.zero_le _,rfl,by simp,Ext.refl _⟩
 case round=>
  obtain⟨k,hk,rfl,hR⟩:=hrel;have HT:=hid hR.out.1;have ER:=hid hR.out.2;clear hR;rcases Nat.lt_or_ge k n with hlt|hge
  case inr=>
   obtain rfl:k=n:=by omega
   have HXE:=hid (show X=(sr,false,[]) by rw[<-HX.out,M.mOf_nowhere (by have h1:=HT.out;rwa [<-HN.out,List.take_length] at h1),HSR.out]);obtain⟨x0,x1,x2⟩:=box3b (HB0.out.up ER.out);obtain⟨⟨y0,y1,y2⟩,⟨f0,f1,f2⟩,hz⟩:=box3v (HB1.out.up ER.out);have HBZ:=hid (HB1.out.up ER.out);go_wp2_with fail
   refine bodyPost_ret (v:=vv sr false none 0 0) (by simp[results,Tryz.results85,go_sem,y0,y1,y2,f0,f1,f2,hz]) rfl ?_;rw[HXE.out];exact⟨_,rfl,(show IsVl wr (sr,false,[]) (vv sr false none 0 0) from⟨none,0,0,rfl,LNum.nil _⟩).put3 HBZ.out,put3v_ext (E.out.trans ER.out) HG.out⟩
  have hlt':(k:Int)<(n:Int):=by omega
  obtain⟨f,hf⟩:∃f,L[k]?=some f:=⟨_,List.getElem?_eq_getElem (by rw[HN.out];exact hlt)⟩;obtain⟨ad,A1,n1,c1,C,m,dd,N,nn,nc,rfl,⟨⟨r0,r1,r2⟩,r3,r4,r5,r6⟩,hi,hrw,hnum⟩:=(HLL.out.up ER.out).get hf;obtain⟨b,hb⟩:∃b,M.ksameS f.sg s=b:=⟨_,rfl⟩;have HCS:=hid (show ∀w',Ext wr w'->Calls Tryz.prog 42 #[sgv f.sg.name A1 n1 c1 f.sg.ret,sgv sn B sa d sr] w' (GivesB w' b) from fun w' e=>hb▸HSS.out f w' A1 n1 c1 ((E.out.trans ER.out).trans e) (hi.up e));have HF:=hid hf;have HBB:=hid hb;have HRC:=hid (And.intro r0 (And.intro r1 r2));have HRD:=hid (And.intro r3 (And.intro r4 (And.intro r5 r6)));have HW:=hid (And.intro hrw.le hrw);have HNU:=hid hnum;have HBX:=hid (HB0.out.up ER.out);have EQ:=hid (Ext.refl wr);clear hf hb hi hrw hnum r0 r1 r2 r3 r4 r5 r6;go_upto_region 5 with (fail)
  refine wp_region_D [(0,0),(1,0),(2,0),(3,0),(4,0),(5,0),(6,1),(7,0)] fun wd hb=>?_;replace EQ:=hid (EQ.out.trans hb);clear hb;refine WE.p 18 (.slice (some ad) n lc) ?_;simp only[pX];refine WE.p 19 (.int .i64 (k:Int)) ?_;simp only[pX];refine WE.q 20 (.pointer (some (ad.add (k*7)))) rfl (fun w' hk=>by go_simp) ?_;simp only[pX];refine WE.q 21 (.pointer (some (ad.add (k*7)))) rfl (fun w' hk=>by go_simp) ?_;simp only[pX];refine WE.q 22 (sgv f.sg.name A1 n1 c1 f.sg.ret) rfl (fun w' hk=>by have ee:=EQ.out.trans hk;have y0:=ee.cell HRC.out.1;have y1:=ee.cell HRC.out.2.1;have y2:=ee.cell HRC.out.2.2;go_simp) ?_;simp only[pX];refine WE.q 23 (sgv sn B sa d sr) rfl (fun w' hk=>by obtain⟨y0,y1,y2⟩:=box3b (HBX.out.up (EQ.out.trans hk));go_simp) ?_;simp only[pX];refine WE.c 24 ((HCS.out _ EQ.out).mono ?_);rintro e w6 ⟨rfl,hb⟩;refine⟨_,rfl,hb,?_⟩;replace EQ:=hid (EQ.out.trans hb);clear hb;simp only[pX];refine WE.p 25 (.bool (!b)) ?_;simp only[pX];refine WE.done ?_;clear HCS;cases b
  case false=>
   go_wp2_with fail
   go_roundw
   case rel=>exact⟨k+1,by omega,by simp,M.nx_ HT.out HF.out (M.ksameS_ne HBB.out),ER.out.trans EQ.out⟩
   case measure=>simp[intOf];omega
  simp only[Bool.not_true];have HXF:=hid (show X=M.fnSays f vs by rw[<-HX.out];exact M.mOf_first HT.out HF.out (M.ksameS_eq HBB.out));have HIF:=hid (HFI.out f (List.mem_of_getElem? HF.out));obtain⟨WX,hWX⟩:∃W,W=w6:=⟨_,rfl⟩;rw[<-hWX] at EQ |-;clear hWX;obtain⟨hm1,hm2,hm3⟩:=HW.out.1;go_wp2_with fail
  go_loopw[9] (fun i wq=>∃j:Nat,j<=m/\i=.int .i64 j/\Hid ((∀q∈f.rows.take j,q.1≠vs)/\Ext WX wq)) (fun i _=>m-(intOf i).toNat)
  case atStart=>exact⟨0,Nat.zero_le _,rfl,by simp,Ext.refl _⟩
  case round=>
   obtain⟨j,hj,rfl,hR⟩:=hrel;have HT2:=hid hR.out.1;have EJ:=hid (EQ.out.trans hR.out.2);have EY:=hid hR.out.2;clear hR;have r3:=EJ.out.cell HRD.out.1;rcases Nat.lt_or_ge j m with jlt|jge
   case inr=>
    obtain rfl:j=m:=by omega
    have HXE:=hid (show X=f.els by rw[HXF.out];exact M.says_else HIF.out HCV.out (by have h1:=HT2.out;rwa [show j=f.rows.length from HW.out.1.1,List.take_length] at h1));have r4:=EJ.out.cell HRD.out.2.1;have r5:=EJ.out.cell HRD.out.2.2.1;have r6:=EJ.out.cell HRD.out.2.2.2;have HBZ:=hid (HB1.out.up (ER.out.trans EJ.out));obtain⟨⟨y0,y1,y2⟩,⟨f0,f1,f2⟩,hz⟩:=box3v HBZ.out;go_wp2_with fail
    refine bodyPost_ret (v:=vv f.els.1 f.els.2.1 N nn nc) (by simp[results,Tryz.results85,go_sem,y0,y1,y2,f0,f1,f2,hz]) rfl ?_;rw[HXE.out];exact⟨_,rfl,(show IsVl _ f.els (vv f.els.1 f.els.2.1 N nn nc) from⟨N,nn,nc,rfl,LNum.up HNU.out EJ.out⟩).put3 HBZ.out,put3v_ext ((E.out.trans ER.out).trans EJ.out) HG.out⟩
   have jlt':(j:Int)<(m:Int):=by omega
   obtain⟨r,hr⟩:∃r,f.rows[j]?=some r:=⟨_,List.getElem?_eq_getElem (by have:=HW.out.1.1;omega)⟩;obtain⟨rd,P,p1,pc,V,vvn,vvc,rfl,⟨s0,s1,s2,s3⟩,hvl,hnum⟩:=(HW.out.2.up EJ.out).get hr;obtain⟨e1,he1⟩:∃b,decide (r.1=vs)=b:=⟨_,rfl⟩;have HCA:=hid (he1▸HSA.out r.1 _ _ ((E.out.trans ER.out).trans EJ.out) hvl);have HE1:=hid he1;have HRX:=hid hr;have HSC:=hid (And.intro s1 (And.intro s2 s3));have HNV:=hid hnum;clear hr he1 hvl hnum s1 s2 s3;go_wp2_with fail
   clear r3 s0;refine HCA.out.mono ?_;rintro e w7 ⟨rfl,hx⟩;have E7:=hid hx;clear hx HCA;cases e1
   case false=>
    clear jlt';go_wp2_with fail
    go_roundw
    case rel=>exact⟨j+1,by omega,by simp,M.nx_ HT2.out HRX.out (of_decide_eq_false HE1.out),EY.out.trans E7.out⟩
    case measure=>simp[intOf];omega
   have HXE:=hid (show X=r.2 by rw[HXF.out];exact M.says_first HIF.out HCV.out HT2.out HRX.out (of_decide_eq_true HE1.out));have r3:=(EJ.out.trans E7.out).cell HRD.out.1;have s1:=E7.out.cell HSC.out.1;have s2:=E7.out.cell HSC.out.2.1;have s3:=E7.out.cell HSC.out.2.2;have HBZ:=hid (HB1.out.up (ER.out.trans (EJ.out.trans E7.out)));obtain⟨⟨y0,y1,y2⟩,⟨f0,f1,f2⟩,hz⟩:=box3v HBZ.out;go_wp2_with fail
   refine bodyPost_ret (v:=vv r.2.1 r.2.2.1 V vvn vvc) (by simp[results,Tryz.results85,go_sem,y0,y1,y2,f0,f1,f2,hz]) rfl ?_;rw[HXE.out];exact⟨_,rfl,(show IsVl w7 r.2 (vv r.2.1 r.2.2.1 V vvn vvc) from⟨V,vvn,vvc,rfl,LNum.up HNV.out E7.out⟩).put3 HBZ.out,put3v_ext ((E.out.trans ER.out).trans (EJ.out.trans E7.out)) HG.out⟩
open Go.RowKit
namespace M
end M
theorem isZ_can {w:World}{x:M.Vl}{N:Option Addr}{nn nc W:Nat}(hc:M.canV x)(hn:LNum w (.slice N nn nc) x.2.2)(hW:x.2.2.length<=W): IsZ w (.agg #[.bool x.2.1,.slice N nn nc]) (M.cz x) W:=by
 obtain⟨a,b⟩:=M.canon_isZ hc;exact⟨N,nn,nc,by rw[<-a],by rw[<-b];exact hn,by rw[<-b];exact hW⟩
set_option maxHeartbeats 8000000 in
theorem xNumber_neg {x:M.Vl}{r:List M.Vl}{v:Value}{w:World}{W:Nat}(h:VList w v (x::r))(hc:M.canV x)(hW:x.2.2.length<=W)(hr:r=[]): Calls Tryz.prog 87 #[.int .i64 14,v] w (GivesZ w (-M.cz x) W):=by
 obtain⟨A,n,c,rfl⟩:=h.shape;obtain⟨hn,hl2,hl3⟩:=h.count;subst hr;obtain rfl:n=1:=hn;obtain⟨ad,N,nn,nc,rfl,⟨c0,c1,c2⟩,hx⟩:=h.at0 (x:=x) rfl;have hz:=isZ_can hc hx hW;obtain⟨Z,hZ⟩:∃Z,-M.cz x=Z:=⟨_,rfl⟩;obtain⟨x1,hx1⟩:∃y,x.2.1=y:=⟨_,rfl⟩;rw[hx1] at c1 hz;have HC:=hid (show ∀w',Ext w w'->Calls Tryz.prog 129 #[.agg #[.bool x1,.slice N nn nc]] w' (GivesZ w' Z W) from fun w' e=>hZ▸rNeg_w (worth_up hz.worth e));rw[hZ];clear h hc hW hz hx hZ hx1 c0;replace c2:w.cell? ⟨ad.block,ad.off+1+1,none⟩=some (.slice N nn nc):=c2;replace c1:=(Ext.alloc w (.cells #[.bool false,.slice none 0 0] 24)).cell c1;replace c2:=(Ext.alloc w (.cells #[.bool false,.slice none 0 0] 24)).cell c2;go_enter Tryz.func87,Tryz.ntmps87
 go_upto_region 2 with (fail)
 refine vwp_at (fun W'=>Box W' w.heap.size #[.bool false,.slice none 0 0] 24/\Box W' (w.heap.size+1) #[.bool x1,.slice N nn nc] 24/\Ext w W') ⟨(Box.new w _ _).alloc _,Box.at_ (w:=w.alloc (.cells #[.bool false,.slice none 0 0] 24)) (g:=w.heap.size+1) _ _ (by simp),alloc_two w _ _⟩ ?_;intro W0 ⟨hb0,hb1,he⟩;obtain⟨g0,hg0⟩:∃k,w.heap.size=k:=⟨_,rfl⟩;have HG:=hid hg0;rw[hg0] at hb0 hb1 |-;have HB0:=hid hb0;have HB1:=hid hb1;have E:=hid he;clear hb0 hb1 he hg0;obtain⟨⟨b0,b1⟩,-,-⟩:=box2v HB1.out;clear c1 c2;go_wp2_with fail
 refine(HC.out _ E.out).mono ?_;rintro e w1 ⟨v1,rfl,⟨A1,n1,c1,rfl,hn1,hk1⟩,hx⟩;have E1:=hid (E.out.trans hx);have HB:=hid (HB0.out.up hx);have HN1:=hid hn1;have HK1:=hid hk1;obtain⟨⟨r0,r1⟩,⟨f0,f1⟩,hz⟩:=box2v HB.out;obtain⟨d1,hd1⟩:∃d1,decide (Z<0)=d1:=⟨_,rfl⟩;rw[hd1];have HD:=hid hd1;clear hx hn1 hk1 hd1 b0 b1 HC;go_wp2_with fail
 refine bodyPost_ret (v:=.agg #[.bool d1,.slice A1 n1 c1]) (by simp[results,Tryz.results87,go_sem,r0,r1,hz]) rfl ?_;exact z_stored HB.out HD.out HN1.out HK1.out E1.out (by rw[HG.out];exact Nat.le_refl _)
open Go.RowKit
namespace M
theorem vHolds_yes {x:Vl}(h:vIs x 1=true): decide (cz x≠0)=vHolds x:=by
 unfold vIs at h;simp only[Bool.and_eq_true,Bool.or_eq_true,decide_eq_true_iff] at h;unfold vHolds;rw[decide_eq_decide];rcases h.2.2 with h1|h1|h1<;>omega
theorem cmp_told (op:Int)(x y:Vl)(h:op=19\/op=20\/op=21\/op=22): mTold op [x,y]=mComp op (M.zcmp (cz x) (cz y)):=(mComp_zcmp h x y).symm
end M
set_option maxHeartbeats 8000000 in
theorem xTold_eq {x y:M.Vl}{v:Value}{w:World}(h:VList w v [x,y])(hx:M.canV x)(hy:M.canV y): Calls Tryz.prog 88 #[.int .i64 10,v] w (GivesB w (M.mTold 10 [x,y])):=by
 obtain⟨A,n,c,rfl⟩:=h.shape;obtain⟨hn,hl2,hl3⟩:=h.count;obtain rfl:n=2:=hn;obtain⟨ad,N,nn,nc,rfl,⟨c0,c1,c2⟩,hnx⟩:=h.at0 (x:=x) rfl;obtain⟨N',nn',nc',⟨d0,d1,d2⟩,hny⟩:=h.at1 (k:=1) (m:=3) rfl (by decide) (x:=y) rfl;have HC:=hid (show ∀w',Ext w w'->Calls Tryz.prog 24 #[vv x.1 x.2.1 N nn nc,vv y.1 y.2.1 N' nn' nc'] w' (GivesB w' (M.mTold 10 [x,y])) from fun w' e=>by
  rw[show M.mTold 10 [x,y]=M.vSame x y from rfl,M.vSame_can hx hy];exact rSame_v ⟨N,nn,nc,rfl,LNum.up hnx e⟩ ⟨N',nn',nc',rfl,LNum.up hny e⟩)
 obtain⟨q,hq⟩:∃q,M.mTold 10 [x,y]=q:=⟨_,rfl⟩;rw[hq];rw[hq] at HC;have HD:=hid (And.intro (And.intro c0 (And.intro c1 c2)) (And.intro d0 (And.intro d1 d2)));clear h hx hy hnx hny hq c0 c1 c2 d0 d1 d2;go_enter Tryz.func88,Tryz.ntmps88
 go_upto_region 9 with (fail)
 refine wp_region_D [(0,0),(1,0),(2,0),(3,0),(4,0),(5,0),(6,1),(7,0)] fun wd hb=>?_;have E:=hid hb;clear hb;refine WE.p 41 (.slice (some ad) 2 c) ?_;simp only[pX];refine WE.q 42 (.pointer (some ad)) rfl (fun w' hk=>by go_simp) ?_;simp only[pX];refine WE.q 43 (vv x.1 x.2.1 N nn nc) rfl (fun w' hk=>by
  have ee:=E.out.trans hk;have x0:=ee.cell HD.out.1.1;have x1:=ee.cell HD.out.1.2.1;have x2:=ee.cell HD.out.1.2.2;go_simp) ?_
 simp only[pX];refine WE.p 44 (.slice (some ad) 2 c) ?_;simp only[pX];refine WE.q 45 (.pointer (some ⟨ad.block,ad.off+3,none⟩)) rfl (fun w' hk=>by go_simp) ?_;simp only[pX];refine WE.q 46 (vv y.1 y.2.1 N' nn' nc') rfl (fun w' hk=>by
  have ee:=E.out.trans hk;have x0:=ee.cell HD.out.2.1;have x1:=ee.cell HD.out.2.2.1;have x2:=ee.cell HD.out.2.2.2;go_simp) ?_
 simp only[pX];refine WE.c 47 ((HC.out _ E.out).mono ?_);rintro e w1 ⟨rfl,hb⟩;refine⟨_,rfl,hb,?_⟩;replace E:=hid (E.out.trans hb);clear hb HC;simp only[pX];refine WE.p 4 (.bool q) ?_;simp only[pX];refine WE.done ?_;go_wp2;go_ret;exact⟨rfl,E.out⟩
set_option maxHeartbeats 8000000 in
theorem xTold_20 {x y:M.Vl}{v:Value}{w:World}(h:VList w v [x,y]): Calls Tryz.prog 88 #[.int .i64 20,v] w (GivesB w (M.mTold 20 [x,y])):=by
 obtain⟨A,n,c,rfl⟩:=h.shape;obtain⟨hn,hl2,hl3⟩:=h.count;obtain rfl:n=2:=hn;obtain⟨ad,N,nn,nc,rfl,⟨c0,c1,c2⟩,hnx⟩:=h.at0 (x:=x) rfl;obtain⟨N',nn',nc',⟨d0,d1,d2⟩,hny⟩:=h.at1 (k:=1) (m:=3) rfl (by decide) (x:=y) rfl;obtain⟨z,hz⟩:∃z,M.zcmp (M.cz x) (M.cz y)=z:=⟨_,rfl⟩;have HC:=hid (show ∀w',Ext w w'->Calls Tryz.prog 132 #[.agg #[.bool x.2.1,.slice N nn nc],.agg #[.bool y.2.1,.slice N' nn' nc']] w' (fun e w''=>e=.returned (.int .i64 z)/\Ext w' w'') from fun w' e=>
  rCmp_w (worth_up (worth_tm (g:=x.2.1) hnx) e) (worth_up (worth_tm (g:=y.2.1) hny) e) hz)
 rw[M.cmp_told 20 x y (by decide),hz,show M.mComp 20 z=decide (z<0) from rfl];obtain⟨q,hq⟩:∃q,decide (z<0)=q:=⟨_,rfl⟩;rw[hq];have HQ:=hid hq;have HD:=hid (And.intro (And.intro c1 c2) (And.intro d1 d2));clear h hnx hny hz hq c0 c1 c2 d0 d1 d2;go_enter Tryz.func88,Tryz.ntmps88
 go_upto_region 13 with (fail)
 refine wp_region_D [(0,0),(1,0),(2,0),(3,0),(4,0),(5,0),(6,0),(7,0),(8,1),(9,0),(10,0)] fun wd hb=>?_;have E:=hid hb;clear hb;refine WE.p 62 (.slice (some ad) 2 c) ?_;simp only[pX];refine WE.q 63 (.pointer (some ad)) rfl (fun w' hk=>by go_simp) ?_;simp only[pX];refine WE.q 64 (.pointer (some ⟨ad.block,ad.off+1,none⟩)) rfl (fun w' hk=>by go_simp) ?_;simp only[pX];refine WE.q 65 (.agg #[.bool x.2.1,.slice N nn nc]) rfl (fun w' hk=>by
  have ee:=E.out.trans hk;have x1:=ee.cell HD.out.1.1;have x2:=ee.cell HD.out.1.2;go_simp) ?_
 simp only[pX];refine WE.p 66 (.slice (some ad) 2 c) ?_;simp only[pX];refine WE.q 67 (.pointer (some ⟨ad.block,ad.off+3,none⟩)) rfl (fun w' hk=>by go_simp) ?_;simp only[pX];refine WE.q 68 (.pointer (some ⟨ad.block,ad.off+3+1,none⟩)) rfl (fun w' hk=>by go_simp) ?_;simp only[pX];refine WE.q 69 (.agg #[.bool y.2.1,.slice N' nn' nc']) rfl (fun w' hk=>by
  have ee:=E.out.trans hk;have x1:=ee.cell HD.out.2.1;have x2:=ee.cell HD.out.2.2;go_simp) ?_
 simp only[pX];refine WE.c 70 ((HC.out _ E.out).mono ?_);rintro e w1 ⟨rfl,hb⟩;refine⟨_,rfl,hb,?_⟩;replace E:=hid (E.out.trans hb);clear hb HC;simp only[pX];refine WE.q 71 (.bool q) rfl (fun w' hk=>by rw[<-HQ.out];go_simp) ?_;simp only[pX];refine WE.p 4 (.bool q) ?_;simp only[pX];refine WE.done ?_;clear HQ;go_wp2;go_ret;exact⟨rfl,E.out⟩
set_option maxHeartbeats 8000000 in
theorem xTold_21 {x y:M.Vl}{v:Value}{w:World}(h:VList w v [x,y]): Calls Tryz.prog 88 #[.int .i64 21,v] w (GivesB w (M.mTold 21 [x,y])):=by
 obtain⟨A,n,c,rfl⟩:=h.shape;obtain⟨hn,hl2,hl3⟩:=h.count;obtain rfl:n=2:=hn;obtain⟨ad,N,nn,nc,rfl,⟨c0,c1,c2⟩,hnx⟩:=h.at0 (x:=x) rfl;obtain⟨N',nn',nc',⟨d0,d1,d2⟩,hny⟩:=h.at1 (k:=1) (m:=3) rfl (by decide) (x:=y) rfl;obtain⟨z,hz⟩:∃z,M.zcmp (M.cz x) (M.cz y)=z:=⟨_,rfl⟩;have HC:=hid (show ∀w',Ext w w'->Calls Tryz.prog 132 #[.agg #[.bool x.2.1,.slice N nn nc],.agg #[.bool y.2.1,.slice N' nn' nc']] w' (fun e w''=>e=.returned (.int .i64 z)/\Ext w' w'') from fun w' e=>
  rCmp_w (worth_up (worth_tm (g:=x.2.1) hnx) e) (worth_up (worth_tm (g:=y.2.1) hny) e) hz)
 rw[M.cmp_told 21 x y (by decide),hz,show M.mComp 21 z=decide (0<=z) from rfl];obtain⟨q,hq⟩:∃q,decide (0<=z)=q:=⟨_,rfl⟩;rw[hq];have HQ:=hid hq;have HD:=hid (And.intro (And.intro c1 c2) (And.intro d1 d2));clear h hnx hny hz hq c0 c1 c2 d0 d1 d2;go_enter Tryz.func88,Tryz.ntmps88
 go_upto_region 15 with (fail)
 refine wp_region_D [(0,0),(1,0),(2,0),(3,0),(4,0),(5,0),(6,0),(7,0),(8,1),(9,0),(10,0)] fun wd hb=>?_;have E:=hid hb;clear hb;refine WE.p 74 (.slice (some ad) 2 c) ?_;simp only[pX];refine WE.q 75 (.pointer (some ad)) rfl (fun w' hk=>by go_simp) ?_;simp only[pX];refine WE.q 76 (.pointer (some ⟨ad.block,ad.off+1,none⟩)) rfl (fun w' hk=>by go_simp) ?_;simp only[pX];refine WE.q 77 (.agg #[.bool x.2.1,.slice N nn nc]) rfl (fun w' hk=>by
  have ee:=E.out.trans hk;have x1:=ee.cell HD.out.1.1;have x2:=ee.cell HD.out.1.2;go_simp) ?_
 simp only[pX];refine WE.p 78 (.slice (some ad) 2 c) ?_;simp only[pX];refine WE.q 79 (.pointer (some ⟨ad.block,ad.off+3,none⟩)) rfl (fun w' hk=>by go_simp) ?_;simp only[pX];refine WE.q 80 (.pointer (some ⟨ad.block,ad.off+3+1,none⟩)) rfl (fun w' hk=>by go_simp) ?_;simp only[pX];refine WE.q 81 (.agg #[.bool y.2.1,.slice N' nn' nc']) rfl (fun w' hk=>by
  have ee:=E.out.trans hk;have x1:=ee.cell HD.out.2.1;have x2:=ee.cell HD.out.2.2;go_simp) ?_
 simp only[pX];refine WE.c 82 ((HC.out _ E.out).mono ?_);rintro e w1 ⟨rfl,hb⟩;refine⟨_,rfl,hb,?_⟩;replace E:=hid (E.out.trans hb);clear hb HC;simp only[pX];refine WE.q 83 (.bool q) rfl (fun w' hk=>by rw[<-HQ.out];go_simp) ?_;simp only[pX];refine WE.p 4 (.bool q) ?_;simp only[pX];refine WE.done ?_;clear HQ;go_wp2;go_ret;exact⟨rfl,E.out⟩
set_option maxHeartbeats 8000000 in
set_option maxRecDepth 20000 in
theorem xTold_or {L:List M.Vl}{v:Value}{w:World}(h:VList w v L)(hb:∀x∈L,M.vIs x 1=true): Calls Tryz.prog 88 #[.int .i64 7,v] w (GivesB w (M.mTold 7 L)):=by
 obtain⟨A,n,c,rfl⟩:=h.shape;obtain⟨hn,hl2,hl3⟩:=h.count;obtain⟨R,hRR⟩:∃R,M.mTold 7 L=R:=⟨_,rfl⟩;rw[hRR];have HRR:=hid hRR;have HL:=hid h;have HN:=hid hn.symm;have HVI:=hid hb;clear h hn hRR hb;go_enter Tryz.func88,Tryz.ntmps88
 go_wp2_with fail
 go_loopw[5,6] (fun i _ wr=>∃k:Nat,k<=n/\i=.int .i64 k/\Hid ((∀x∈L.take k,M.vHolds x=false)/\Ext w wr)) (fun i _ _=>n-(intOf i).toNat)
 case atStart=>exact⟨0,Nat.zero_le _,rfl,by simp,Ext.refl _⟩
 case round=>
  obtain⟨k,hk,rfl,hR⟩:=hrel;have HS:=hid hR.out.1;have E:=hid hR.out.2;clear hR;rcases Nat.lt_or_ge k n with hlt|hge
  case inr=>
   obtain rfl:k=n:=by omega
   have HF:=hid (show R=false from by
    have h1:=HS.out;rw[<-HN.out,List.take_length] at h1;rw[<-HRR.out];exact List.any_eq_false.2 (fun x hx=>by simpa using h1 x hx))
   go_wp2_with fail
   go_ret;exact⟨by rw[HF.out];rfl,E.out⟩
  have hlt':(k:Int)<(n:Int):=by omega
  obtain⟨y,hy⟩:∃y,L[k]?=some y:=⟨_,List.getElem?_eq_getElem (by rw[HN.out];exact hlt)⟩;have HY:=hid hy;obtain⟨ad,N,nn,nc,rfl,⟨c0,c1,c2⟩,hv⟩:=(HL.out.up E.out).at_ hy;have HC:=hid (show ∀w',Ext wr w'->Calls Tryz.prog 51 #[vv y.1 y.2.1 N nn nc] w' (GivesB w' (M.vHolds y)) from fun w' e=>M.vHolds_yes (HVI.out y (List.mem_of_getElem? hy))▸xYes_n (hv.up e));obtain⟨q,hq⟩:∃q,M.vHolds y=q:=⟨_,rfl⟩;rw[hq] at HC;have HQ:=hid hq;clear hy hv hq;go_wp2_with fail
  refine(HC.out _ (Ext.refl _)).mono ?_;rintro e w2 ⟨rfl,hx⟩;have E1:=hid (E.out.trans hx);clear hx c0 c1 c2 HC;cases q
  case true=>
   have HF:=hid (show R=true from by
    rw[<-HRR.out];exact List.any_eq_true.2 ⟨y,List.mem_of_getElem? HY.out,HQ.out⟩)
   go_wp2_with fail
   go_ret;exact⟨by rw[HF.out];rfl,E1.out⟩
  case false=>
   go_wp2_with fail
   obtain⟨WX,hWX⟩:∃W,W=w2:=⟨_,rfl⟩;rw[<-hWX] at E1 |-;clear hWX;go_loopw[6] (fun i wq=>i=.int .i64 0/\Hid (Ext WX wq)) (fun i _=>0)
   case atStart=>exact⟨rfl,Ext.refl _⟩
   case round=>
    obtain⟨rfl,hR⟩:=hrel;have E2:=hid hR.out;clear hR;rcases Nat.eq_zero_or_pos k with h0|h0
    ·subst h0;go_wp2_with fail
     go_roundw
     case rel=>exact⟨1,by omega,by simp,M.nx_ HS.out HY.out HQ.out,E1.out.trans E2.out⟩
     case measure=>simp[intOf];omega
    ·have h0':decide (0<k)=true:=by simpa using h0
     have h0'':decide ((0:Int)<(k:Int))=true:=by simp;omega
     go_wp2_with fail
     clear h0' h0'';go_roundw
     case rel=>exact⟨k+1,by omega,by simp,M.nx_ HS.out HY.out HQ.out,E1.out.trans E2.out⟩
     case measure=>simp[intOf];omega
end Go.Proofs.YtoenjbkmiphhoaaGreatDoor.Q
