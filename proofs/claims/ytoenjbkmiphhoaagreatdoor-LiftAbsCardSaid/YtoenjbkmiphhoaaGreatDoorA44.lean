import Derived.Test.YtoenjbkmiphhoaaGreatDoorA43
import Derived.Test.YtoenjbkmiphhoaaGreatDoorA39
import Derived.Test.YtoenjbkmiphhoaaGreatDoorA24
import Derived.Test.YtoenjbkmiphhoaaGreatDoorA28
set_option linter.unusedSimpArgs false
set_option linter.unusedVariables false
namespace Go.Proofs.YtoenjbkmiphhoaaGreatDoor.Q
open Go.RowKit
def GivesDo (w:World)(r:M.Tm×M.LS)(e:Ending)(w':World): Prop:=
 ∃u hv,e=.returned (.tuple #[u,hv,.int .i64 r.2.next])/\IsTm w' r.1 u/\Tms w' r.2.held hv/\Ext w w'
set_option maxHeartbeats 8000000 in
theorem do_l {t:M.Tm}{v:Value}{next:Int}{w:World}(ht:IsTm w t v)(hf:M.kfew t=true)(hc:M.kcnt t<=100000)(htab:TabL w)(hr:M.Room (M.kcnt t) (M.ls0 next)):
 Calls Tryz.prog 12 #[v,.int .i64 next] w (GivesDo w (M.lifted t next)):=by
 have HD:=hid (show ∀w',Ext w w'->Calls Tryz.prog 36 #[v,.int .i64 next] w' (GivesLf w w' (M.lifted t next)) from fun w' e=>lifted_l e ht hf hc htab hr);obtain⟨r,hrr⟩:∃r,M.lifted t next=r:=⟨_,rfl⟩
 rw[hrr] at HD |-;obtain⟨N,nn,nc,A,c,rfl,hn,hks⟩:=ht;obtain⟨o1,ho1⟩:∃o,t.op=o:=⟨_,rfl⟩;obtain⟨o2,ho2⟩:∃o,t.g=o:=⟨_,rfl⟩;obtain⟨o3,ho3⟩:∃o,t.name=o:=⟨_,rfl⟩;obtain⟨o4,ho4⟩:∃o,t.sort=o:=⟨_,rfl⟩;obtain⟨o5,ho5⟩:∃o,t.kids.length=o:=⟨_,rfl⟩;rw[ho1,ho2,ho3,ho4,ho5] at HD |-;clear hn hks ho1 ho2 ho3 ho4 ho5 hf hc htab hr hrr;have HB0:=hid (show Box ((w.alloc (.cells #[.int .i64 o1,.bool o2,.slice N nn nc,str o3,.int .i64 o4,.slice A o5 c] 27)).alloc (.cells zero6 27)) w.heap.size #[.int .i64 o1,.bool o2,.slice N nn nc,str o3,.int .i64 o4,.slice A o5 c] 27 from(Box.new w _ _).alloc _);have HB1:=hid (show Box ((w.alloc (.cells #[.int .i64 o1,.bool o2,.slice N nn nc,str o3,.int .i64 o4,.slice A o5 c] 27)).alloc (.cells zero6 27)) (w.heap.size+1) zero6 27 from Box.at_ (w:=w.alloc (.cells #[.int .i64 o1,.bool o2,.slice N nn nc,str o3,.int .i64 o4,.slice A o5 c] 27)) _ _ (by simp));have E0:=hid (alloc_two w (.cells #[.int .i64 o1,.bool o2,.slice N nn nc,str o3,.int .i64 o4,.slice A o5 c] 27) (.cells zero6 27));go_enter Tryz.func12,Tryz.ntmps12
 go_upto_region 1 with (fail)
 refine vwp_at (fun W'=>Box W' w.heap.size #[.int .i64 o1,.bool o2,.slice N nn nc,str o3,.int .i64 o4,.slice A o5 c] 27/\Box W' (w.heap.size+1) zero6 27/\Ext w W') ⟨HB0.out,HB1.out,E0.out⟩ ?_;clear HB0 HB1 E0;intro W1 ⟨hb0,hb1,he⟩;obtain⟨g0,hg0⟩:∃g,w.heap.size=g:=⟨_,rfl⟩;obtain⟨g1,hg1⟩:∃g,g0+1=g:=⟨_,rfl⟩;have HG:=hid (And.intro hg0 hg1);rw[hg0,hg1] at hb1 |-;rw[hg0] at hb0;have HB1:=hid hb1;have E:=hid he;obtain⟨⟨b0,b1,b2,b3,b4,b5⟩,-,-⟩:=boxF6 hb0;clear hb0 hb1 he hg0 hg1;go_wp2_with fail
 refine(HD.out _ E.out).mono ?_;rintro e w2 ⟨u,hv,cv,rfl,hu,hh,hcn,hx⟩;obtain⟨x1,x2,xN,xn,xm,x3,x4,xA,x5,xd,rfl⟩:=hu.kvs;obtain⟨hA,hc,rfl⟩:=hh.shape;obtain⟨cA,cc,rfl,-,-⟩:=hcn.shape;obtain⟨N1,hN1⟩:∃n,W1.heap.size=n:=⟨_,rfl⟩;have HN1:=hid (show g1<N1 from hN1▸HB1.out.lt);rw[hN1] at hu hh;obtain⟨hn,hhn⟩:∃n,r.2.held.length=n:=⟨_,rfl⟩;obtain⟨cn,hcn2⟩:∃n,r.2.cons.length=n:=⟨_,rfl⟩;rw[hhn] at hh;rw[hhn,hcn2];obtain⟨nx,hnx⟩:∃n,r.2.next=n:=⟨_,rfl⟩;obtain⟨rf,hrf⟩:∃n,r.2.ref=n:=⟨_,rfl⟩;rw[hnx,hrf];have HU:=hid hu;have HH:=hid hh;replace HB1:=hid (HB1.out.up hx);replace E:=hid (E.out.trans hx);have HNX:=hid hnx;clear hu hh hcn hx hhn hcn2 hnx hrf hN1 b0 b1 b2 b3 b4 b5 HD;go_upto_region 2 with (fail)
 refine vwp_at (fun W'=>Box W' w2.heap.size #[.int .i64 x1,.bool x2,.slice xN xn xm,str x3,.int .i64 x4,.slice xA x5 xd] 27/\Box W' (w2.heap.size+1) #[.int .i64 nx,.slice hA hn hc,.slice cA cn cc,.bool rf] 74/\Ext w2 W') ⟨(Box.new w2 _ _).alloc _,Box.at_ (w:=w2.alloc _) _ _ (by simp),alloc_two w2 _ _⟩ ?_;intro W4 ⟨hb7,hb8,he⟩;obtain⟨g7,hg7⟩:∃g,w2.heap.size=g:=⟨_,rfl⟩;obtain⟨g8,hg8⟩:∃g,g7+1=g:=⟨_,rfl⟩;have HG7:=hid (show g1≠g7/\g1≠g8/\g1<W4.heap.size/\g8<W4.heap.size from⟨by have:=HB1.out.lt;omega,by have:=HB1.out.lt;omega,(HB1.out.up he).lt,by have:=hb8.lt;omega⟩);rw[hg7,hg8] at hb8 |-;rw[hg7] at hb7;have HB7:=hid hb7;have HB8:=hid hb8;replace HU:=hid (HU.out.sub (gp_extV he));replace HH:=hid (HH.out.sub (gp_extV he));replace HB1:=hid (HB1.out.up he);replace E:=hid (E.out.trans he);clear hb7 hb8 he hg7 hg8;have HXX:=hid (show ∀x∈[g1],x<W4.heap.size from by intro x hx;simp at hx;subst hx;exact HG7.out.2.2.1);refine wp_region_M (Kept [g1]) (KeptB W4.heap.size [g1]) (relB _ HXX.out) (fun _ _=>undef) [(0,0),(1,5),(2,5),(3,5),(4,5),(5,4),(6,5),(7,5)] 27 zero6 (fun wd hb=>?_) (by
  intro j hj;simp[pend] at hj)
 replace HB7:=hid (HB7.out.up hb);have HB8d:=hid (HB8.out.up hb);replace HU:=hid (HU.out.sub (gp_extV hb));replace HH:=hid (HH.out.sub (gp_extV hb));replace HB1:=hid (HB1.out.up hb);replace E:=hid (E.out.trans hb);clear hb;refine WM.q 15 (kv x1 x2 xN xn xm x3 x4 xA x5 xd) rfl (fun w' hk=>by obtain⟨⟨c0,c1,c2,c3,c4,c5⟩,-,-⟩:=boxF6 (HB7.out.kept hk (by have:=HG7.out.1;simp;omega));go_simp) ?_;simp only[pX];refine WM.y 16 (.pointer (some ⟨g8,1,none⟩)) ?_ (hy:=fun w' hk=>by go_simp);simp only[pX];refine WM.y 17 (.slice hA hn hc) ?_ (hy:=fun w' hk=>by obtain⟨⟨c0,c1,c2,c3⟩,-,-⟩:=box4l (HB8d.out.keptX hk HG7.out.2.2.2 (by have:=HG7.out.2.1;simp;omega));go_simp);simp only[pX];refine WM.y 18 (.pointer (some ⟨g8,0,none⟩)) ?_ (hy:=fun w' hk=>by go_simp);simp only[pX];refine WM.y 19 (.int .i64 nx) ?_ (hy:=fun w' hk=>by obtain⟨⟨c0,c1,c2,c3⟩,-,-⟩:=box4l (HB8d.out.keptX hk HG7.out.2.2.2 (by have:=HG7.out.2.1;simp;omega));go_simp);simp only[pX];obtain⟨⟨r0,r1,r2,r3,r4,r5⟩,⟨f0,f1,f2,f3,f4,f5⟩,hz⟩:=boxF6 HB1.out;refine WM.store (w':=put6 wd g1 (.int .i64 x1) (.bool x2) (.slice xN xn xm) (str x3) (.int .i64 x4) (.slice xA x5 xd)) rfl rfl (by rfl) (by go_simp) ⟨put6_kept.1,fun i hi hb hx=>put6_kept.2 i hi hx⟩ ?_;clear r0 r1 r2 r3 r4 r5 f0 f1 f2 f3 f4 f5 hz;obtain⟨wf,hwf⟩:∃x,put6 wd g1 (.int .i64 x1) (.bool x2) (.slice xN xn xm) (str x3) (.int .i64 x4) (.slice xA x5 xd)=x:=⟨_,rfl⟩;have HS:=hid (show Sub (gp (outer w N1) wd) wf from hwf▸(gpv_mono (q:=fun _=>True) put6_kept.1.size fun k h1 h2=>⟨trivial,put6_kept.2 k h1 (by have:=HN1.out;have:=HG.out;have h3:k<w.heap.size\/N1<=k:=h2;simp;omega)⟩).trans (gp_sub _ _));have HK:=hid (show Ext w wf from hwf▸put6_ext E.out (by have:=HG.out;omega));have HB:=hid (show Box wf g1 #[.int .i64 x1,.bool x2,.slice xN xn xm,str x3,.int .i64 x4,.slice xA x5 xd] 27 from hwf▸(((((HB1.out.setAt 0 _).setAt 1 _).setAt 2 _).setAt 3 _).setAt 4 _).setAt 5 _);rw[hwf];refine WM.y 5 (.slice hA hn hc) ?_ (hy:=fun w' hk=>by go_simp);simp only[pX];refine WM.y 6 (.int .i64 nx) ?_ (hy:=fun w' hk=>by go_simp);simp only[pX];refine WM.done ?_;obtain⟨⟨r0,r1,r2,r3,r4,r5⟩,-,hz⟩:=boxF6 HB.out;go_wp2_with fail
 refine bodyPost_ret (v:=.tuple #[kv x1 x2 xN xn xm x3 x4 xA x5 xd,.slice hA hn hc,.int .i64 nx]) (by simp[results,Tryz.results12,go_sem,r0,r1,r2,r3,r4,r5,hz]) rfl ?_;rw[<-HNX.out];refine⟨_,_,rfl,?_,?_,HK.out⟩
 ·exact HU.out.sub HS.out
 ·exact HH.out.sub HS.out
open Go.RowKit
set_option maxHeartbeats 4000000 in
set_option maxRecDepth 20000 in
theorem read_l {m:List M.Fn}{mv:Value}{w:World}(h:FnList w m mv)(hlen:m.length<=100000)(hwd:∀f∈m,M.funWd f): Calls Tryz.prog 44 #[mv] w (GivesFs w (M.mRead m)):=by
 have HI:=hid (is_v h fun f hf=>(hwd f hf).2.1);have HO:=hid (fun (w':World) (e:Ext w w')=>made_v (h.up e) hlen hwd);obtain⟨A,c,rfl⟩:=h.shape;clear h hlen hwd;go_enter Tryz.func44,Tryz.ntmps44
 go_wp2_with fail
 refine HI.out.mono ?_;rintro e w2 ⟨rfl,hx⟩;rcases hq:M.mIs m with _|_
 ·have HR:=hid (show M.mRead m=[] from by unfold M.mRead;rw[hq];rfl);have E:=hid hx;clear hx hq HI HO;go_wp2_with fail
  go_ret;rw[HR.out];exact⟨_,rfl,FnList.nil _,E.out⟩
 ·have HR:=hid (show M.mRead m=m from by unfold M.mRead;rw[hq];rfl);have E:=hid hx;clear hx hq HI;go_wp2_with fail
  refine(HO.out _ E.out).mono ?_;rintro e w3 ⟨u,rfl,hu,hb⟩;have HU:=hid hu;have HB:=hid hb;obtain⟨A',c',rfl,-,-⟩:=hu.shape;clear hu hb;go_wp2_with fail
  go_ret;rw[HR.out];exact⟨_,rfl,HU.out.funs.sub (gpv_mono (Nat.le_refl _) fun k _ h=>⟨Nat.le_trans E.out.size h,rfl⟩),E.out.trans HB.out⟩
open Go.RowKit
theorem M.mPut_mem {f g:M.Fn}: ∀{l:List M.Fn},f∈M.mPut l g->f=g\/f∈l:=by
 intro l h;unfold M.mPut at h;rcases List.mem_append.1 h with h|h
 ·exact .inr ((List.takeWhile_sublist _).mem h)
 ·rcases List.mem_cons.1 h with h|h
  ·exact .inl h
  ·exact .inr ((List.dropWhile_sublist _).mem ((List.dropWhile_sublist _).mem h))
theorem M.mPut_len (l:List M.Fn)(g:M.Fn): (M.mPut l g).length<=l.length+1:=by
 unfold M.mPut;have h1:=congrArg List.length (List.takeWhile_append_dropWhile (p:=fun x:M.Fn=>Go.Op.bytesLess x.sg.name g.sg.name) (l:=l));have h2:=(List.dropWhile_sublist (fun x:M.Fn=>decide (x.sg.name=g.sg.name)) (l:=l.dropWhile fun x:M.Fn=>Go.Op.bytesLess x.sg.name g.sg.name)).length_le;rw[List.length_append] at h1;rw[List.length_append,List.length_cons];omega
theorem cons_get {B:Nat}{V w:World}{A:Option Addr}{n c:Nat}{cs:List (List UInt8×M.Tm)}(h:OwnL CC 7 87 B V w (.slice A n c) cs){k:Nat}{x:List UInt8×M.Tm}(hk:cs[k]?=some x):
 ∃ad N nn nc B' d,A=some ad/\(w.cell? (ad.add (k*7))=some (str x.1)/\w.cell? ⟨(ad.add (k*7)).block,(ad.add (k*7)).off+1,none⟩=some (.int .i64 x.2.op)/\w.cell? ⟨(ad.add (k*7)).block,(ad.add (k*7)).off+2,none⟩=some (.bool x.2.g)/\w.cell? ⟨(ad.add (k*7)).block,(ad.add (k*7)).off+3,none⟩=some (.slice N nn nc)
  /\ w.cell? ⟨(ad.add (k*7)).block,(ad.add (k*7)).off+4,none⟩=some (str x.2.name)/\w.cell? ⟨(ad.add (k*7)).block,(ad.add (k*7)).off+5,none⟩=some (.int .i64 x.2.sort)/\w.cell? ⟨(ad.add (k*7)).block,(ad.add (k*7)).off+6,none⟩=some (.slice B' x.2.kids.length d))
  /\ IsTm V x.2 (kv x.2.op x.2.g N nn nc x.2.name x.2.sort B' x.2.kids.length d):=by
 obtain⟨A',n',c',e,h2,h3,h4,h5⟩:=h.tell cck;injection e with e1 e2 e3;subst e1;obtain⟨g,rfl,-,-,us,⟨N,nn,nc,B',n1,d,rfl,hn,hks⟩,hc⟩:=h5 k x hk;obtain⟨rfl,-,-⟩:=hks.le;refine⟨_,N,nn,nc,B',d,rfl,⟨?_,?_,?_,?_,?_,?_,?_⟩,N,nn,nc,B',d,rfl,hn,hks⟩
 ·have:=hc 0 _ rfl;rwa [Addr.add_zero'] at this
 ·exact hc 1 _ rfl
 ·exact hc 2 _ rfl
 ·exact hc 3 _ rfl
 ·exact hc 4 _ rfl
 ·exact hc 5 _ rfl
 ·exact hc 6 _ rfl
def GivesOv (w:World)(l:List M.Fn)(e:Ending)(w':World): Prop:=∃u,e=.returned u/\StrInW w' l u/\Ext w w'/\∀f∈l,M.fnWd 40040 f
theorem kcnts_map_take {cs:List (List UInt8×M.Tm)}{k:Nat}{c:List UInt8×M.Tm}(h:cs[k]?=some c): M.kcnts ((cs.take (k+1)).map (·.2))=M.kcnts ((cs.take k).map (·.2))+M.kcnt c.2:=by
 rw[List.take_add_one,h,List.map_append,M.kcnts_app];show _+M.kcnts [c.2]=_;rw[M.kcnts,M.kcnts];omega
set_option maxHeartbeats 16000000 in
set_option maxRecDepth 20000 in
theorem over_g {P:Int->Bool}(C:TermC P){t:M.Tm}{v:Value}{next:Int}{m:List M.Fn}{mv:Value}{w:World}(hP:∀c∈(M.lifted t next).2.cons,M.allOp P c.2=true)(ht:IsTm w t v)(hf:M.kfew t=true)(hc:M.kcnt t<=400)(htab:TabL w)(hr:M.Room (M.kcnt t) (M.ls0 next))(hm:StrIn w m mv)(hlen:m.length<=40000):
 Calls Tryz.prog 21 #[v,mv,.int .i64 next] w (GivesOv w (M.overM (M.mRead m) (M.lifted t next).2.cons)):=by
 have HD:=hid (show ∀w',Ext w w'->Calls Tryz.prog 36 #[v,.int .i64 next] w' (GivesLf w w' (M.lifted t next)) from fun w' e=>lifted_l e ht hf (by omega) htab hr);have HRD:=hid (show ∀w',Ext w w'->Calls Tryz.prog 44 #[mv] w' (GivesFs w' (M.mRead m)) from fun w' e=>read_l (hm.list.up e) (by omega) hm.fw);obtain⟨hok1,hok2,hok3⟩:=M.lifted_ok hr hf;obtain⟨r,hrr⟩:∃r,M.lifted t next=r:=⟨_,rfl⟩
 rw[hrr] at HD hok1 hok2 hok3 hP |-;obtain⟨cs,hcs⟩:∃l,r.2.cons=l:=⟨_,rfl⟩;have HPC:=hid (show ∀c∈cs,M.allOp P c.2=true from hcs▸hP);have HOK:=hid (show (∀c∈cs,M.kfew c.2=true/\c.1.length<=30)/\M.kcnts (cs.map (·.2))<=800/\cs.length<=400 from by rw[<-hcs];exact⟨hok1,by have h2:M.kcnts (r.2.cons.map (·.2))<=2*M.kcnt t:=hok2;omega,by omega⟩);obtain⟨m0,hm0⟩:∃l,M.mRead m=l:=⟨_,rfl⟩;have HM0:=hid (show (∀f∈m0,M.funWd f/\M.fnWd 40 f)/\m0.length<=40000 from by rw[<-hm0];exact⟨fun f hf=>⟨hm.fw f (M.mRead_mem hf),hm.wd f (M.mRead_mem hf)⟩,Nat.le_trans (M.mRead_len m) hlen⟩);rw[hm0] at HRD |-;rw[hcs];have HTB:=hid htab;obtain⟨MA,mc,rfl⟩:=hm.list.shape;obtain⟨mn,hmn⟩:∃n,m.length=n:=⟨_,rfl⟩;rw[hmn] at HRD |-;obtain⟨N,nn,nc,A,c,rfl,hn,hks⟩:=ht;obtain⟨o1,ho1⟩:∃o,t.op=o:=⟨_,rfl⟩;obtain⟨o2,ho2⟩:∃o,t.g=o:=⟨_,rfl⟩;obtain⟨o3,ho3⟩:∃o,t.name=o:=⟨_,rfl⟩;obtain⟨o4,ho4⟩:∃o,t.sort=o:=⟨_,rfl⟩;obtain⟨o5,ho5⟩:∃o,t.kids.length=o:=⟨_,rfl⟩;rw[ho1,ho2,ho3,ho4,ho5] at HD |-;have HB0:=hid (Box.new w #[.int .i64 o1,.bool o2,.slice N nn nc,str o3,.int .i64 o4,.slice A o5 c] 27);have E0:=hid (Ext.alloc w (.cells #[.int .i64 o1,.bool o2,.slice N nn nc,str o3,.int .i64 o4,.slice A o5 c] 27));have HCS:=hid hcs;clear hn hks ho1 ho2 ho3 ho4 ho5 hf hc htab hr hrr hm hlen hok1 hok2 hok3 hm0 hmn hcs hP;go_enter Tryz.func21,Tryz.ntmps21
 go_upto_region 1 with (fail)
 refine vwp_at (fun W'=>Box W' w.heap.size #[.int .i64 o1,.bool o2,.slice N nn nc,str o3,.int .i64 o4,.slice A o5 c] 27/\Ext w W') ⟨HB0.out,E0.out⟩ ?_;clear HB0 E0;intro W1 ⟨hb0,he⟩;obtain⟨g0,hg0⟩:∃g,w.heap.size=g:=⟨_,rfl⟩;rw[hg0] at hb0 |-;have E:=hid he;obtain⟨⟨b0,b1,b2,b3,b4,b5⟩,-,-⟩:=boxF6 hb0;clear hb0 he hg0;go_wp2_with fail
 refine(HD.out _ E.out).mono ?_;rintro e w2 ⟨u,hv,cv,rfl,hu,hh,hcn,hx⟩;obtain⟨x1,x2,xN,xn,xm,x3,x4,xA,x5,xd,rfl⟩:=hu.kvs;obtain⟨hA,hc,rfl⟩:=hh.shape;rw[HCS.out] at hcn;obtain⟨cA,cc,rfl,-,-⟩:=hcn.shape;obtain⟨hn,hhn⟩:∃n,r.2.held.length=n:=⟨_,rfl⟩;obtain⟨n,hcn2⟩:∃n,cs.length=n:=⟨_,rfl⟩;rw[hcn2] at hcn |-;rw[hhn];obtain⟨nx,hnx⟩:∃n,r.2.next=n:=⟨_,rfl⟩;obtain⟨rf,hrf⟩:∃n,r.2.ref=n:=⟨_,rfl⟩;rw[hnx,hrf];have HN:=hid hcn2;have HCN:=hid (hcn.world cck (gp_sub _ _));replace E:=hid (E.out.trans hx);clear hu hh hcn hx hhn hcn2 hnx hrf b0 b1 b2 b3 b4 b5 HD;go_upto_region 2 with (fail)
 refine vwp_at (fun W'=>Box W' (w2.heap.size+1) #[.int .i64 nx,.slice hA hn hc,.slice cA n cc,.bool rf] 74/\Ext w2 W') ⟨Box.at_ (w:=w2.alloc _) _ _ (by simp),alloc_two w2 _ _⟩ ?_;intro W4 ⟨hb8,he⟩;obtain⟨g8,hg8⟩:∃g,w2.heap.size+1=g:=⟨_,rfl⟩;obtain⟨g7,hg7⟩:∃g,w2.heap.size=g:=⟨_,rfl⟩;rw[hg8] at hb8 |-;rw[hg7];have HB8:=hid hb8;replace HCN:=hid ((HCN.out.up he).world cck he.sub);replace E:=hid (E.out.trans he);clear hb8 he hg7 hg8;go_wp2_with fail
 refine(HRD.out _ E.out).mono ?_;rintro e w5 ⟨xv,rfl,hx5,hb⟩;have HF5:=hid (hx5.sub (gp_sub _ _));obtain⟨XA,xc,rfl⟩:=hx5.shape;replace HB8:=hid (HB8.out.up hb);replace HCN:=hid ((HCN.out.up hb).world cck hb.sub);replace E:=hid (E.out.trans hb);obtain⟨⟨c0,c1,c2,c3⟩,-,-⟩:=box4l HB8.out;clear hx5 hb HRD;go_wp2_with fail
 clear c0 c1 c2 c3 HB8;have HL0:=hid (show StrInW w5 m0 (.slice XA m0.length xc) from⟨HF5.out,by have:=HM0.out.2;omega,fun f hf=>(HM0.out.1 f hf).1,fun f hf=>M.fnWd_le (HM0.out.1 f hf).2 (by decide)⟩);go_loopw[9,23] (fun x i wr=>∃k:Nat,k<=n/\i=.int .i64 k/\Hid (StrInW wr (M.overM m0 (cs.take k)) x/\(∀f∈M.overM m0 (cs.take k),M.fnWd (40+50*M.kcnts ((cs.take k).map (·.2))) f)/\(M.overM m0 (cs.take k)).length<=40000+k/\Ext w5 wr)) (fun _ i _=>n-(intOf i).toNat)
 case atStart=>exact⟨0,Nat.zero_le _,rfl,HL0.out,(fun f hf=>(HM0.out.1 f hf).2),HM0.out.2,Ext.refl _⟩
 case round=>
  obtain⟨k,hk,rfl,hR⟩:=hrel;have HS:=hid hR.out.1;have HW:=hid hR.out.2.1;have HLN:=hid hR.out.2.2.1;have E5:=hid hR.out.2.2.2;clear hR;obtain⟨L,hL⟩:∃L,M.overM m0 (cs.take k)=L:=⟨_,rfl⟩;have HL:=hid hL;rw[hL] at HS HW HLN;obtain⟨IA,ic,rfl⟩:=HS.out.list.shape;obtain⟨ln,hln⟩:∃n,L.length=n:=⟨_,rfl⟩;rw[hln] at HS HLN |-;have HLL:=hid hln;clear hL hln;rcases Nat.lt_or_ge k n with hlt|hge
  ·have hlt':(k:Int)<(n:Int):=by omega
   obtain⟨q,hq⟩:∃q,cs[k]?=some q:=⟨_,List.getElem?_eq_getElem (by rw[HN.out];exact hlt)⟩;have HU:=hid hq;obtain⟨ad,cN,cn,cm,cB,cd,rfl,⟨c0,c1,c2,c3,c4,c5,c6⟩,hit⟩:=cons_get (HCN.out.up E5.out) hq;have HT:=hid (hit.up E5.out);have HQK:=hid (HOK.out.1 q (List.mem_of_getElem? hq));have HQP:=hid (HPC.out q (List.mem_of_getElem? hq));obtain⟨q0,hq0⟩:∃o,q.1=o:=⟨_,rfl⟩;obtain⟨qt',hqt⟩:∃o,q.2=o:=⟨_,rfl⟩;rw[hq0,hqt] at HQK;rw[hqt] at HQP;rw[hqt] at c1 c2 c4 c5 c6 HT;rw[hq0] at c0;have HQE:=hid (show q=(q0,qt') from by rw[<-hq0,<-hqt]);obtain⟨q1,hq1⟩:∃o,qt'.op=o:=⟨_,rfl⟩;obtain⟨q2,hq2⟩:∃o,qt'.g=o:=⟨_,rfl⟩;obtain⟨q3,hq3⟩:∃o,qt'.name=o:=⟨_,rfl⟩;obtain⟨q4,hq4⟩:∃o,qt'.sort=o:=⟨_,rfl⟩;obtain⟨q5,hq5⟩:∃o,qt'.kids.length=o:=⟨_,rfl⟩;rw[hq1] at c1 HT;rw[hq2] at c2 HT;rw[hq3] at c4 HT;rw[hq4] at c5 HT;rw[hq5] at c6 HT;clear hq hit hq0 hqt hq1 hq2 hq3 hq4 hq5;go_upto_region 6 with (fail)
   refine vwp_at (fun W'=>Box W' wr.heap.size #[str q0,.int .i64 q1,.bool q2,.slice cN cn cm,str q3,.int .i64 q4,.slice cB q5 cd] 87/\Ext wr W') ⟨Box.new wr _ _,Ext.alloc _ _⟩ ?_;intro W6 ⟨hb,he⟩;obtain⟨g9,hg9⟩:∃g,wr.heap.size=g:=⟨_,rfl⟩;rw[hg9] at hb |-;have HB:=hid hb;have E6:=hid he;clear hb he hg9 c0 c1 c2 c3 c4 c5 c6;obtain⟨S,hS⟩:∃S,M.kcnts ((cs.take k).map (·.2))=S:=⟨_,rfl⟩;have HSK:=hid hS;have HSB:=hid (show S+M.kcnt qt'<=800 from by
    have h1:=kcnts_map_take HU.out;rw[hS,HQE.out] at h1;have h2:=M.kcnts_take_le (cs.map (·.2)) (k+1);rw[<-List.map_take,h1] at h2;exact Nat.le_trans h2 HOK.out.2.1)
   rw[hS] at HW;clear hS;refine wp_region_D [(0,0),(1,0),(2,0),(3,0),(4,0),(5,0),(6,1),(7,1),(8,0)] fun wd hb=>?_;replace HB:=hid (HB.out.up hb);replace E6:=hid (show Ext wr wd from E6.out.trans hb);clear hb;refine WE.p 27 (.slice IA ln ic) ?_;simp only[pX];refine WE.p 28 (.pointer (some ⟨g9,0,none⟩)) ?_;simp only[pX];refine WE.q 29 (str q0) rfl (fun w' hk=>by have ce:=(HB.out.up hk).k 0;go_simp) ?_;simp only[pX];refine WE.p 30 (.pointer (some ⟨g9,1,none⟩)) ?_;simp only[pX];refine WE.q 31 (kv q1 q2 cN cn cm q3 q4 cB q5 cd) rfl (fun w' hk=>by
    have c1:=(HB.out.up hk).k 1;have c2:=(HB.out.up hk).k 2;have c3:=(HB.out.up hk).k 3;have c4:=(HB.out.up hk).k 4;have c5:=(HB.out.up hk).k 5;have c6:=(HB.out.up hk).k 6;go_simp) ?_
   simp only[pX];refine WE.p 32 (.slice IA ln ic) ?_;simp only[pX];clear HB;have EW:=hid (show Ext w wd from(E.out.trans E5.out).trans E6.out);refine WE.c 33 ((eval_gU C (U:=40+50*S) (by omega) (by have:=HSB.out;omega) HQP.out (HS.out.up E6.out) (fun f hf=>.inl (HW.out f hf)) (HT.out.up E6.out) HQK.out.1 (HTB.out.up EW.out).1).mono ?_);rintro e w7 ⟨v7,rfl,hv7,hb7,hl7⟩;refine⟨_,rfl,hb7,?_⟩;obtain⟨X,hX⟩:∃X,M.mEval L qt'=X:=⟨_,rfl⟩;have HX:=hid hX;rw[hX] at hv7 hl7;have HV:=hid hv7;have HXL:=hid hl7;obtain⟨yN,yn,yc,rfl,-⟩:=hv7;have E7:=hid (show Ext wr w7 from E6.out.trans hb7);clear hX hb7 hl7 E6 EW;simp only[pX];refine WE.c 34 ((put_v (nm:=q0) (x:=X) (HS.out.up E7.out).list HV.out (HS.out.len) HS.out.fw (by have:=HQK.out.2;omega) (by have:=HXL.out;have:=HSB.out;omega)).mono ?_);rintro e w8 ⟨v8,rfl,hv8,hb8⟩;refine⟨_,rfl,hb8,?_⟩;have HV8:=hid (hv8.sub (gp_sub _ _));obtain⟨A8,k8,rfl⟩:=hv8.shape;have E8:=hid (show Ext wr w8 from E7.out.trans hb8);clear hb8 E7;obtain⟨n8,hn8⟩:∃n,(M.mPut (M.mRead L) (M.constF q0 X)).length=n:=⟨_,rfl⟩;rw[hn8] at HV8 |-;have HN8:=hid hn8;simp only[pX];refine WE.p 9 (.slice A8 n8 k8) ?_;simp only[pX];refine WE.done ?_;have HNX:=hid (show M.overM m0 (cs.take (k+1))=M.mPut (M.mRead L) (M.constF q0 X) from by
    rw[List.take_add_one,HU.out,HQE.out];show M.overM m0 (cs.take k++[(q0,qt')])=_;rw[M.overM_snoc,HL.out,HX.out])
   have HNW:=hid (show ∀f∈M.mPut (M.mRead L) (M.constF q0 X),M.funWd f/\M.fnWd (40+50*(S+M.kcnt qt')) f from fun f hf=>by
    rcases M.mPut_mem hf with rfl|hf
    ·exact⟨M.constF_wd (by have:=HQK.out.2;omega) (by have:=HXL.out;have:=HSB.out;omega),⟨by have:=HXL.out;show X.2.2.length<=_;omega,fun r hr=>by cases hr⟩⟩
    ·exact⟨HS.out.fw f (M.mRead_mem hf),M.fnWd_le (HW.out f (M.mRead_mem hf)) (by omega)⟩)
   have HNL:=hid (show n8<=40000+(k+1) from by
    rw[<-HN8.out];have h1:=M.mPut_len (M.mRead L) (M.constF q0 X);have h2:=M.mRead_len L;have h3:=HLN.out;have h4:=HLL.out;omega)
   have HKN:=hid (show n<=400 from by rw[<-HN.out];exact HOK.out.2.2);have hkn:=HKN.out;go_wp2_with fail
   go_roundw
   case rel=>
    refine⟨k+1,by omega,by simp,?_⟩;rw[HNX.out];exact⟨⟨HV8.out,by rw[HN8.out];have:=HNL.out;have:=HKN.out;omega,fun f hf=>(HNW.out f hf).1,fun f hf=>M.fnWd_le (HNW.out f hf).2 (by have:=HSB.out;omega)⟩,(by rw[kcnts_map_take HU.out,HSK.out,HQE.out];exact fun f hf=>(HNW.out f hf).2),by rw[HN8.out];exact HNL.out,E5.out.trans E8.out⟩
   case measure=>simp[intOf];omega
  ·obtain rfl:k=n:=by omega
   have h1:=HL.out;rw[<-HN.out,List.take_length] at h1;have HF:=hid (show GivesOv w (M.overM m0 cs) (.returned (.slice IA ln ic)) wr from⟨_,rfl,by rw[h1];exact HS.out,E.out.trans E5.out,by
    rw[h1];have h2:=M.kcnts_take_le (cs.map (·.2)) k;rw[<-List.map_take] at h2;have h3:=HOK.out.2.1;exact fun f hf=>M.fnWd_le (HW.out f hf) (by omega)⟩)
   clear h1 HL;go_wp2_with fail
   go_ret;exact HF.out
open Go.RowKit
theorem M.cz_zero {s:Int}{g:Bool}{ls:List Nat}(h:M.isZ g ls=true): decide (M.cz (s,g,ls)=1)=decide (g=false/\ls=M.limbs (1:Int).natAbs):=by
 rw[decide_eq_decide];obtain⟨c1,c2⟩:=M.canon_isZ (x:=(s,g,ls)) h;constructor
 ·intro e;rw[e] at c1 c2;exact⟨c1,c2⟩
 ·rintro⟨rfl,rfl⟩;exact M.zv_of 1
set_option maxHeartbeats 8000000 in
theorem xIsValue_n {x:M.Vl}{v:Value}{s:Int}{w:World}(h:IsVl w x v): Calls Tryz.prog 35 #[v,.int .i64 s] w (GivesB w (M.vIs x s)):=by
 obtain⟨t,g,ls⟩:=x;obtain⟨N,nn,nc,rfl,hn⟩:=h;replace hn:LNum w (.slice N nn nc) ls:=hn;show Calls Tryz.prog 35 #[vv t g N nn nc,.int .i64 s] w _;obtain⟨R,hRR⟩:∃R,M.vIs (t,g,ls) s=R:=⟨_,rfl⟩;rw[hRR];have HR:=hid (show R=(decide (t=s)&&(M.isZ g ls&&(decide (s=2)||(decide (M.cz (t,g,ls)=0)||decide (M.cz (t,g,ls)=1))))) from hRR.symm);obtain⟨q,hq⟩:∃q,M.isZ g ls=q:=⟨_,rfl⟩;have HI:=hid (show ∀w',Ext w w'->Calls Tryz.prog 59 #[.agg #[.bool g,.slice N nn nc]] w' (GivesB w' q) from fun w' e=>rzIs_any (LNum.up hn e) hq);have HN:=hid (fun w' (e:Ext w w')=>LNum.up hn e);have HQ:=hid hq;obtain⟨⟨b0,b1,b2⟩,-,-⟩:=box3v (Box.new w #[.int .i64 t,.bool g,.slice N nn nc] 45);clear hRR hq hn
 by_cases hs:t=s
 case neg=>
  obtain rfl:R=false:=by rw[HR.out,decide_eq_false hs];rfl
  have hq1:(t==s)=false:=by simpa using hs
  have hq2:(t != s)=true:=by simpa using hs
  clear hs HR;go_enter Tryz.func35,Tryz.ntmps35
  go_wp2_with fail
  go_ret;exact⟨rfl,Ext.alloc w _⟩
 subst hs;replace HR:=hid (show R=(q&&(decide (t=2)||(decide (M.cz (t,g,ls)=0)||decide (M.cz (t,g,ls)=1)))) by rw[HR.out,decide_eq_true rfl,Bool.true_and,HQ.out]);go_enter Tryz.func35,Tryz.ntmps35
 go_wp2_with fail
 clear b0 b1 b2;refine(HI.out _ (Ext.alloc w _)).mono ?_;rintro e w1 ⟨rfl,hx⟩;have E:=hid ((Ext.alloc w (.cells #[.int .i64 t,.bool g,.slice N nn nc] 45)).trans hx);have HB:=hid ((Box.new w #[.int .i64 t,.bool g,.slice N nn nc] 45).up hx);clear hx HI;cases q
 case false=>
  obtain rfl:R=false:=by rw[HR.out];rfl
  go_wp2_with fail
  go_ret;exact⟨rfl,E.out⟩
 obtain⟨k,hk⟩:∃k,w.heap.size=k:=⟨_,rfl⟩;rw[hk] at HB |-;clear hk;go_upto_region 3 with (fail)
 by_cases h2:t=2
 case pos=>
  obtain rfl:R=true:=by rw[HR.out,decide_eq_true h2];rfl
  have hq1:(t==2)=true:=by simpa using h2
  clear h2 HR;refine wp_region_D [(0,0),(1,0),(2,0),(3,0),(4,0),(5,1),(6,0),(7,0),(8,0),(9,0),(10,0),(11,1),(12,1),(13,0),(14,0)] fun wd hb=>?_;replace E:=hid (E.out.trans hb);replace HB:=hid (HB.out.up hb);clear hb;refine WE.p 15 (.int .i64 t) ?_;simp only[pX];refine WE.q 16 (.bool true) rfl (fun w' hk=>by go_simp) ?_;simp only[pX];refine WE.p 17 (.bool true) ?_;simp only[pX];refine WE.s 18 ?_;simp only[pX];refine WE.s 19 ?_;simp only[pX];refine WE.t 20 ?_;simp only[pX];refine WE.s 21 ?_;simp only[pX];refine WE.p 22 (.bool true) ?_;simp only[pX];refine WE.p 23 (.bool true) ?_;simp only[pX];refine WE.s 24 ?_;simp only[pX];refine WE.s 25 ?_;simp only[pX];refine WE.t 26 ?_;simp only[pX];refine WE.t 27 ?_;simp only[pX];refine WE.p 28 (.bool true) ?_;simp only[pX];refine WE.p 4 (.bool true) ?_;simp only[pX];refine WE.done ?_;go_wp2_with fail
  go_ret;exact⟨rfl,E.out⟩
 have hq1:(t==2)=false:=by simpa using h2
 obtain⟨Z,hZ⟩:∃Z,M.cz (t,g,ls)=Z:=⟨_,rfl⟩;have HO:=hid (M.cz_zero (s:=t) HQ.out);rw[hZ] at HR HO;have HZ:=hid (show M.zv g ls=Z from hZ);replace HR:=hid (show R=(decide (Z=0)||decide (g=false/\ls=M.limbs (1:Int).natAbs)) by rw[HR.out,decide_eq_false h2,Bool.false_or,Bool.true_and,HO.out]);clear h2 hZ HO;obtain⟨S,hS⟩:∃S,Z.sign=S:=⟨_,rfl⟩;obtain⟨z0,hz0⟩:∃b,decide (Z=0)=b:=⟨_,rfl⟩;have hs0:(S==0)=z0:=by rw[<-hS,<-hz0,Bool.eq_iff_iff];simp[Int.sign_eq_zero_iff_zero]
 obtain⟨e1,he1⟩:∃b,decide (g=false/\ls=M.limbs (1:Int).natAbs)=b:=⟨_,rfl⟩;rw[hz0,he1] at HR;have HS:=hid hS;have HE:=hid he1;have HW:=hid (show ∀w',Ext w w'->Worth w' (.agg #[.bool g,.slice N nn nc]) Z ls.length from fun w' e=>worth_of (HN.out w' e) (Nat.le_refl _) HZ.out.symm);clear hS hz0 he1;refine wp_region_D [(0,0),(1,0),(2,0),(3,0),(4,0),(5,1),(6,0),(7,0),(8,0),(9,0),(10,0),(11,1),(12,1),(13,0),(14,0)] fun wd hb=>?_;replace E:=hid (E.out.trans hb);replace HB:=hid (HB.out.up hb);clear hb;refine WE.p 15 (.int .i64 t) ?_;simp only[pX];refine WE.q 16 (.bool false) rfl (fun w' hk=>by go_simp) ?_;simp only[pX];refine WE.p 17 (.bool false) ?_;simp only[pX];refine WE.p 18 (.pointer (some ⟨k,1,none⟩)) ?_;simp only[pX];refine WE.q 19 (.agg #[.bool g,.slice N nn nc]) rfl (fun w' hk=>by have x1:=(HB.out.up hk).k 1;have x2:=(HB.out.up hk).k 2;go_simp) ?_;simp only[pX];refine WE.c 20 ((rSign_w (HW.out _ E.out) HS.out).mono ?_);rintro e w6 ⟨rfl,hb⟩;refine⟨_,rfl,hb,?_⟩;replace E:=hid (E.out.trans hb);replace HB:=hid (HB.out.up hb);clear hb;simp only[pX];refine WE.q 21 (.bool z0) rfl (fun w' hk=>by go_simp) ?_;simp only[pX];refine WE.q 22 (.bool z0) rfl (fun w' hk=>by go_simp) ?_;simp only[pX];refine WE.p 23 (.bool z0) ?_;simp only[pX];cases z0
 case true=>
  obtain rfl:R=true:=by rw[HR.out];rfl
  refine WE.s 24 ?_;simp only[pX];refine WE.s 25 ?_;simp only[pX];refine WE.t 26 ?_;simp only[pX];refine WE.t 27 ?_;simp only[pX];refine WE.p 28 (.bool true) ?_;simp only[pX];refine WE.p 4 (.bool true) ?_;simp only[pX];refine WE.done ?_;go_wp2_with fail
  go_ret;exact⟨rfl,E.out⟩
 case false=>
  obtain rfl:R=e1:=by rw[HR.out];rfl
  refine WE.p 24 (.pointer (some ⟨k,1,none⟩)) ?_;simp only[pX];refine WE.q 25 (.agg #[.bool g,.slice N nn nc]) rfl (fun w' hk=>by have x1:=(HB.out.up hk).k 1;have x2:=(HB.out.up hk).k 2;go_simp) ?_;simp only[pX];refine WE.c 26 ((rOf_z (n:=1) (by decide) (by decide) _).mono ?_);rintro e w6 ⟨v7,rfl,⟨N7,n7,c7,rfl,hn7,-⟩,hb⟩;refine⟨_,rfl,hb,?_⟩;replace E:=hid (E.out.trans hb);replace HB:=hid (HB.out.up hb);have HN7:=hid (show LNum w6 (.slice N7 n7 c7) (M.limbs (1:Int).natAbs) from hn7);clear hn7 hb;simp only[pX];refine WE.c 27 ((requal_n (g:=g) (g':=false) (HN.out _ E.out) HN7.out).mono ?_);rintro e w6 ⟨rfl,hb⟩;refine⟨_,rfl,hb,?_⟩;replace E:=hid (E.out.trans hb);clear hb;rw[HE.out];simp only[pX];refine WE.p 28 (.bool R) ?_;simp only[pX];refine WE.p 4 (.bool R) ?_;simp only[pX];refine WE.done ?_;go_wp2_with fail
  go_ret;exact⟨rfl,E.out⟩
open Go.RowKit
set_option maxHeartbeats 4000000 in
theorem xTruth_n (b:Bool)(w:World): Calls Tryz.prog 84 #[.bool b] w (GivesV w (M.vTruth b)):=by
 have HC:=hid (show ∀w',Calls Tryz.prog 28 #[.int .i64 1] w' (GivesZ w' 1 3) from fun w'=>rOf_z (by decide) (by decide) w');have HB1:=hid (show Box (w.alloc (.cells zero3v 45)) w.heap.size zero3v 45 from Box.new w _ _);cases b
 ·have HP:=hid (show GivesV w (M.vTruth false) (.returned (vv 1 false none 0 0)) (put3v (w.alloc (.cells zero3v 45)) w.heap.size (.int .i64 1) (.bool false) (.slice none 0 0)) from⟨_,rfl,⟨none,0,0,rfl,LNum.nil _⟩,put3v_ext (Ext.alloc w _) (Nat.le_refl _)⟩);clear HC;go_enter Tryz.func84,Tryz.ntmps84
  obtain⟨⟨r0,r1,r2⟩,⟨f0,f1,f2⟩,hz⟩:=box3v HB1.out;go_wp2_with fail
  refine bodyPost_ret (v:=vv 1 false none 0 0) (by simp[results,Tryz.results84,go_sem]) rfl ?_;exact⟨_,rfl,⟨none,0,0,rfl,LNum.nil _⟩,Ext.alloc w _⟩
 ·go_enter Tryz.func84,Tryz.ntmps84
  go_wp2_with fail
  refine(HC.out _).mono ?_;rintro e w1 ⟨v1,rfl,⟨A1,n1,c1,rfl,hn1,-⟩,hx⟩;replace HB1:=hid (HB1.out.up hx);have E:=hid ((Ext.alloc w (.cells zero3v 45)).trans hx);have HN:=hid (show LNum w1 (.slice A1 n1 c1) (M.limbs (1:Int).natAbs) from hn1);clear hx hn1;obtain⟨⟨r0,r1,r2⟩,⟨f0,f1,f2⟩,hz⟩:=box3v HB1.out;go_wp2_with fail
  refine bodyPost_ret (v:=vv 1 false A1 n1 c1) (by simp[results,Tryz.results84,go_sem,r0,r1,r2,hz]) rfl ?_;exact⟨_,rfl,(show IsVl w1 (M.vz 1 1) (vv 1 false A1 n1 c1) from⟨A1,n1,c1,rfl,HN.out⟩).put3 HB1.out,put3v_ext E.out (Nat.le_refl _)⟩
set_option maxHeartbeats 4000000 in
theorem xYes_n {x:M.Vl}{v:Value}{w:World}(h:IsVl w x v): Calls Tryz.prog 51 #[v] w (GivesB w (decide (M.cz x≠0))):=by
 obtain⟨t,g,ls⟩:=x;obtain⟨N,nn,nc,rfl,hn⟩:=h;replace hn:LNum w (.slice N nn nc) ls:=hn;obtain⟨Z,hZ⟩:∃Z,M.cz (t,g,ls)=Z:=⟨_,rfl⟩;rw[hZ];have HZ:=hid (show M.zv g ls=Z from hZ);obtain⟨S,hS⟩:∃S,Z.sign=S:=⟨_,rfl⟩;have HW:=hid (show ∀w',Ext w w'->Calls Tryz.prog 60 #[.agg #[.bool g,.slice N nn nc]] w' (fun e w''=>e=.returned (.int .i64 S)/\Ext w' w'') from fun w' e=>rSign_w (worth_of (LNum.up hn e) (Nat.le_refl _) HZ.out.symm) hS);obtain⟨z0,hz0⟩:∃b,decide (Z≠0)=b:=⟨_,rfl⟩;have hs0:(S != 0)=z0:=by rw[<-hS,<-hz0,Bool.eq_iff_iff];simp[Int.sign_eq_zero_iff_zero]
 have hs1:(S==0)=!z0:=by rw[<-hs0];simp[bne]
 rw[hz0];obtain⟨⟨b0,b1,b2⟩,-,-⟩:=box3v (Box.new w #[.int .i64 t,.bool g,.slice N nn nc] 45);show Calls Tryz.prog 51 #[vv t g N nn nc] w _;clear hZ hS hz0 hn;go_enter Tryz.func51,Tryz.ntmps51
 go_wp2_with fail
 refine(HW.out _ (Ext.alloc w _)).mono ?_;rintro e w1 ⟨rfl,hx⟩;have E:=hid ((Ext.alloc w (.cells #[.int .i64 t,.bool g,.slice N nn nc] 45)).trans hx);clear hx b0 b1 b2 HW;go_wp2_with fail
 go_ret;exact⟨rfl,E.out⟩
end Go.Proofs.YtoenjbkmiphhoaaGreatDoor.Q
