/-
  Package lift: what is carried on, in memory; of.
-/
import Derived.Test.YtoenjbkmiphhoaaGreatDoorA27
import Derived.Test.YtoenjbkmiphhoaaGreatDoorA34
import Derived.Test.YtoenjbkmiphhoaaGreatDoorA35
import Derived.Test.YtoenjbkmiphhoaaGreatDoorA36
namespace Go.Proofs.YtoenjbkmiphhoaaGreatDoor.Q
set_option linter.unusedSimpArgs false
set_option linter.unusedVariables false
open Go.RowKit
theorem _root_.Go.Proofs.YtoenjbkmiphhoaaGreatDoor.Kept.setNew {X:List Nat}{w w1:World}{k o:Nat}{u:Value}(h:Kept X w w1)(hk:w.heap.size≤k): Kept X w (w1.setCell ⟨k,o,none⟩ u):=
 ⟨h.1.trans (kept_setAt (w:=w1) (g:=k) (o:=o) u).1,fun i hi hx=>((kept_setAt (w:=w1) (g:=k) (o:=o) u).2 i (Nat.lt_of_lt_of_le hi h.1.size) (by simp;omega)).trans (h.2 i hi hx)⟩
theorem _root_.Go.Proofs.YtoenjbkmiphhoaaGreatDoor.Kept.put6New {X:List Nat}{w w1:World}{k:Nat}{x0 x1 x2 x3 x4 x5:Value}(h:Kept X w w1)(hk:w.heap.size≤k): Kept X w (put6 w1 k x0 x1 x2 x3 x4 x5):=(((((h.setNew hk).setNew hk).setNew hk).setNew hk).setNew hk).setNew hk
theorem _root_.Go.Proofs.YtoenjbkmiphhoaaGreatDoor.Kept.setIn {X:List Nat}{w w1:World}{k o:Nat}{u:Value}(h:Kept X w w1)(hk:k∈X): Kept X w (w1.setCell ⟨k,o,none⟩ u):=
 ⟨h.1.trans (kept_setAt (w:=w1) (g:=k) (o:=o) u).1,fun i hi hx=>((kept_setAt (w:=w1) (g:=k) (o:=o) u).2 i (Nat.lt_of_lt_of_le hi h.1.size) (by simp;intro e;exact hx (e▸hk))).trans (h.2 i hi hx)⟩
theorem _root_.Go.Proofs.YtoenjbkmiphhoaaGreatDoor.Kept.more {X Y:List Nat}{w w':World}(h:Kept X w w')(hs:∀k∈X,k∈Y): Kept Y w w':=⟨h.1,fun k hk hy=>h.2 k hk fun hx=>hy (hs k hx)⟩
def CC (V:World)(x:List UInt8×M.Tm)(us:List Value): Prop:=∃N nn nc A n c,us=[str x.1,.int .i64 x.2.op,.bool x.2.g,.slice N nn nc,str x.2.name,.int .i64 x.2.sort,.slice A n c]∧LNum V (.slice N nn nc) x.2.ls∧Tms V x.2.kids (.slice A n c)
theorem cck:CKind CC 7 where
 len:=by rintro V x us ⟨N,nn,nc,A,n,c,rfl,-⟩;rfl
 one:=by
  rintro V x us ⟨N,nn,nc,A,n,c,rfl,-⟩ u hu
  simp at hu
  rcases hu with rfl|rfl|rfl|rfl|rfl|rfl|rfl<;>rfl
 sub:=by rintro V V' x us ⟨N,nn,nc,A,n,c,h1,h2,h3⟩ e;exact⟨N,nn,nc,A,n,c,h1,h2.sub e,h3.sub e⟩
theorem ctk:TKind 7 72 87:=⟨by decide,Tryz.underlying72,.agg #[.string ⟨#[]⟩,.int .i64 0,.bool false,.slice none 0 0,.string ⟨#[]⟩,.int .i64 0,.slice none 0 0],104,by kernel_rfl,rfl,by decide⟩
abbrev lcells (st:M.LS)(hv cv:Value): Array Value:=#[.int .i64 st.next,hv,cv,.bool st.ref]
def TabL (w:World): Prop:=Tab w∧Go.Proofs.YtoenjbkmiphhoaaGreatDoor.Tab w
theorem TabL.up {w w':World}(h:TabL w)(e:Ext w w'): TabL w':=⟨h.1.up e,Go.Proofs.YtoenjbkmiphhoaaGreatDoor.Tab.up h.2 e⟩
structure LSt (W:World)(g:Nat)(hv cv:Value)(xs:List Value)(st:M.LS)(w:World): Prop where
 ext:Ext W w
 tab:TabL W
 low:Low W.heap.size g (hv::cv::xs) w
 box:Box w g (lcells st hv cv) 74
 held:OwnL TC 6 27 W.heap.size (gp (qt g (hv::cv::xs)) w) w hv st.held
 cons:OwnL CC 7 87 W.heap.size (gp (qt g (hv::cv::xs)) w) w cv st.cons
 apart:∀k,hv.ownBlock=some k→cv.ownBlock≠some k
theorem LSt.tabl {W:World}{g:Nat}{hv cv:Value}{xs:List Value}{st:M.LS}{w:World}(h:LSt W g hv cv xs st w): TabL w:=h.tab.up h.ext
theorem LSt.up {W:World}{g:Nat}{hv cv:Value}{xs:List Value}{st:M.LS}{w w':World}(h:LSt W g hv cv xs st w)(e:Ext w w'): LSt W g hv cv xs st w' where
 ext:=h.ext.trans e
 tab:=h.tab
 low:=h.low.ext e.size
 box:=h.box.up e
 held:=(h.held.up e).world tck (gp_extV e)
 cons:=(h.cons.up e).world cck (gp_extV e)
 apart:=h.apart
theorem own_kept {α:Type}{C:World→α→List Value→Prop}{sz:Nat}{T:TypeId}{B:Nat}{V w w':World}{v:Value}{l:List α}(h:OwnL C sz T B V w v l)(hb:∀b,v.ownBlock=some b→w'.heap[b]?=w.heap[b]?): OwnL C sz T B V w' v l:=by
 obtain⟨xs,⟨hl,h3⟩,h2⟩:=h;refine⟨xs,⟨hl,h3.imp id ?_⟩,h2⟩;rintro⟨g,cap,cur,h4,h5,h6,h7⟩;exact⟨g,cap,cur,h4,h5,by rw[hb g (by rw[h4];rfl)];exact h6,h7⟩
theorem LSt.store {W:World}{g:Nat}{hv cv:Value}{xs:List Value}{st st':M.LS}{w w':World}(h:LSt W g hv cv xs st w)(hk:Kept [g] w w')(hb:Box w' g (lcells st' hv cv) 74)(h1:st'.held=st.held)(h2:st'.cons=st.cons): LSt W g hv cv xs st' w':=by
 have hs:Sub (gp (qt g (hv::cv::xs)) w) (gp (qt g (hv::cv::xs)) w'):=gpv_mono hk.1.size fun k hk' hq=>⟨hq,hk.2 k hk' (by simpa using hq.1)⟩
 exact {
  ext:=Below.trans (B:=W.heap.size) h.ext (hk.below (X:=[g]) h.ext.size (by intro x hx;simp at hx;subst hx;exact h.low.1.1))
  tab:=h.tab
  low:=h.low.ext hk.1.size
  box:=hb
  held:=by
   rw[h1];exact(own_kept h.held fun b hb=>hk.2 b (h.low.2 hv (by simp) b hb).2.1 (by simpa using (h.low.2 hv (by simp) b hb).2.2)).world tck hs
  cons:=by
   rw[h2];exact(own_kept h.cons fun b hb=>hk.2 b (h.low.2 cv (by simp) b hb).2.1 (by simpa using (h.low.2 cv (by simp) b hb).2.2)).world cck hs
  apart:=h.apart }
theorem _root_.Go.Proofs.YtoenjbkmiphhoaaGreatDoor.Kept.turn {W:World}{g:Nat}{vs:List Value}{w w':World}(hk:Kept [g] w w')(hB:W.heap.size≤g)(he:W.heap.size≤w.heap.size): Turn W.heap.size g vs w vs w':=
 ⟨hk.below (X:=[g]) he (by intro x hx;simp at hx;subst hx;exact hB),fun k hk' hq=>⟨hq,hk.2 k hk' (by simpa using hq.1)⟩⟩
theorem box4l {w:World}{k:Nat}{x0 x1 x2 x3:Value}{T:TypeId}(h:Box w k #[x0,x1,x2,x3] T): (w.cell? ⟨k,0,none⟩=some x0∧w.cell? ⟨k,1,none⟩=some x1∧w.cell? ⟨k,2,none⟩=some x2∧w.cell? ⟨k,3,none⟩=some x3) ∧
 (w.frozen? ⟨k,0,none⟩=false∧w.frozen? ⟨k,1,none⟩=false∧w.frozen? ⟨k,2,none⟩=false∧w.frozen? ⟨k,3,none⟩=false)∧k<w.heap.size:=⟨⟨h.k 0,h.k 1,h.k 2,h.k 3⟩,⟨h.free 0,h.free 1,h.free 2,h.free 3⟩,h.lt⟩
def GivesL (W:World)(g:Nat)(hv cv:Value)(xs:List Value)(t:M.Tm)(st:M.LS)(w:World)(e:Ending)(w':World): Prop:=
 ∃u hv' cv',e=.returned u∧LSt W g hv' cv' xs st w'∧IsTm (gp (qt g (hv'::cv'::xs)) w') t u∧Turn W.heap.size g [hv,cv] w [hv',cv'] w'
def GivesO (W:World)(g:Nat)(hv cv:Value)(xs:List Value)(t:M.Tm)(st:M.LS)(w:World)(e:Ending)(w':World): Prop:=
 ∃u,e=.returned u∧LSt W g hv cv xs st w'∧IsTm (gp (qt g (hv::cv::xs)) w') t u∧Kept [g] w w'
set_option maxHeartbeats 4000000 in
theorem of_l {W:World}{g:Nat}{hv cv:Value}{xs:List Value}{st:M.LS}{w:World}{op:Int}{l:List M.Tm}{v:Value}(h:LSt W g hv cv xs st w)(hl:Tms w l v)(hf:M.kfews l=true):
 Calls Tryz.prog 138 #[.pointer (some ⟨g,0,none⟩),.int .i64 op,v] w (GivesO W g hv cv xs (M.ofT op l st.ref).1 (M.lfOf op l st) w):=by
 obtain⟨A,c,rfl⟩:=hl.shape;obtain⟨n,hn⟩:∃n,l.length=n:=⟨_,rfl⟩;rw[hn] at hl ⊢;have HM:=hid (show ∀w',Ext w w'→Calls Tryz.prog 177 #[.int .i64 op,.slice A n c] w' (GivesTmN w' (M.kmake op l)) from fun w' e=>make_tn (hl.up e) hf (h.tabl.up e).1);obtain⟨sn,sh,sc,rf⟩:=st;have HB0:=hid (Box.new w zero6 27);have HL:=hid (h.up (Ext.alloc w (.cells zero6 27)));have E:=hid (Ext.alloc w (.cells zero6 27));have HG:=hid (show g≠w.heap.size by have:=h.low.1.2;omega);have HL0:=hid h;clear h hl hn;go_enter Tryz.func138,Tryz.ntmps138
 go_upto_region 1 with (fail)
 obtain⟨g0,hg0⟩:∃k,w.heap.size=k:=⟨_,rfl⟩;obtain⟨W1,hW1⟩:∃W1,w.alloc (.cells zero6 27)=W1:=⟨_,rfl⟩;have HS:=hid (show w.heap.size≤g0 by omega);have HS1:=hid (show g0<W1.heap.size by rw[←hW1,←hg0];simp);rw[hg0,hW1] at HB0;rw[hW1] at HL E;rw[hg0] at HG;rw[hW1,hg0];clear hg0 hW1;obtain⟨⟨c0,c1,c2,c3⟩,-,hlt⟩:=box4l HL.out.box;cases rf
 case true=>
  obtain⟨⟨r0,r1,r2,r3,r4,r5⟩,⟨q0,q1,q2,q3,q4,q5⟩,hz⟩:=boxF6 HB0.out;go_wp2_with fail
  refine bodyPost_ret (v:=kv 0 false none 0 0 [] 0 none 0 0) (by simp[results,Tryz.results138,go_sem,r0,r1,r2,r3,r4,r5,hz]) rfl ?_;have EZ:Ext w (put6 W1 g0 (.int .i64 0) (.bool false) (.slice none 0 0) (.string ⟨#[]⟩) (.int .i64 0) (.slice none 0 0)):=put6_ext E.out HS.out;exact⟨_,rfl,HL0.out.up EZ,IsTm.zero _,EZ.kept _⟩
 case false=>
  go_wp2_with fail
  refine(HM.out _ E.out).mono ?_;rintro e w2 ⟨u,rfl,hu,hx⟩;obtain⟨T,hT⟩:∃T,M.kmake op l=T:=⟨_,rfl⟩;rw[hT] at hu ⊢;obtain⟨T1,C⟩:=T;obtain⟨N2,nn2,nc2,A2,d2,rfl,hn2,hk2⟩:=hu;obtain⟨o1,ho1⟩:∃o,T1.op=o:=⟨_,rfl⟩;obtain⟨o2,ho2⟩:∃o,T1.g=o:=⟨_,rfl⟩;obtain⟨o3,ho3⟩:∃o,T1.name=o:=⟨_,rfl⟩;obtain⟨o4,ho4⟩:∃o,T1.sort=o:=⟨_,rfl⟩;obtain⟨o5,ho5⟩:∃o,T1.kids.length=o:=⟨_,rfl⟩;have HU:=hid (show IsTm (gp (fun b=>W1.heap.size≤b) w2) T1 (kv o1 o2 N2 nn2 nc2 o3 o4 A2 o5 d2) from by
   rw[←ho1,←ho2,←ho3,←ho4,←ho5];exact⟨N2,nn2,nc2,A2,d2,rfl,hn2,hk2⟩)
  have HK:=hid ((E.out.trans hx).kept [g]);have HX:=hid hx;have HT:=hid hT;replace HB0:=hid (HB0.out.up hx);have HBG:=hid (HL.out.box.up hx);have HSZ:=hid hx.size;have HS0:=hid HB0.out.lt;have HSG:=hid HBG.out.lt;simp only[ho1,ho2,ho3,ho4,ho5];clear hT hn2 hk2 ho1 ho2 ho3 ho4 ho5 hx c0 c1 c2 c3 hlt HM;go_upto_region 4 with (fail)
  refine vwp_at (fun W=>Box W w2.heap.size #[.int .i64 o1,.bool o2,.slice N2 nn2 nc2,str o3,.int .i64 o4,.slice A2 o5 d2] 27∧Ext w2 W) ⟨Box.new w2 _ _,Ext.alloc w2 _⟩ ?_;intro W4 ⟨hb7,he⟩;obtain⟨k7,hk7⟩:∃k,w2.heap.size=k:=⟨_,rfl⟩;rw[hk7] at hb7 ⊢;have HN7:=hid (show g≠k7∧g0≠k7∧w.heap.size≤k7 by have:=HSG.out;have:=HS0.out;have:=HS.out;omega);have HB7:=hid hb7;have HE4:=hid he;replace HB0:=hid (HB0.out.up he);replace HBG:=hid (HBG.out.up he);replace HK:=hid (HK.out.trans (he.kept [g]));clear hb7 he hk7;obtain⟨⟨c0,c1,c2,c3⟩,⟨f0,f1,f2,f3⟩,hlt⟩:=box4l HBG.out;go_upto_region 5 with (fail)
  have HB7':=hid (HB7.out.far (p:=⟨g,3,none⟩) (Ne.symm HN7.out.1) (.bool (C != 0)));have HB0':=hid (HB0.out.far (p:=⟨g,3,none⟩) (Ne.symm HG.out) (.bool (C != 0)));have HBG':=hid (show Box _ g (lcells (M.lfOf op l { next:=sn,held:=sh,cons:=sc,ref:=false }) hv cv) 74 from by
   have:=HBG.out.setAt 3 (.bool (C != 0));show Box _ g #[.int .i64 sn,hv,cv,.bool (M.ofT op l false).2] _;rw[M.ofT_new,HT.out,show decide (C≠0)=(C != 0) by rw[Bool.eq_iff_iff];simp];exact this)
  have HK':=hid (HK.out.setIn (k:=g) (o:=3) (u:=.bool (C != 0)) (by simp));have HKX:=hid ((HE4.out.kept [g,g0]).setIn (k:=g) (o:=3) (u:=.bool (C != 0)) (by simp));refine vwp_at (fun W=>Box W k7 #[.int .i64 o1,.bool o2,.slice N2 nn2 nc2,str o3,.int .i64 o4,.slice A2 o5 d2] 27∧Box W g0 zero6 27∧Box W g (lcells (M.lfOf op l { next:=sn,held:=sh,cons:=sc,ref:=false }) hv cv) 74∧Kept [g] w W∧Kept [g,g0] w2 W) ⟨HB7'.out,HB0'.out,HBG'.out,HK'.out,HKX.out⟩ ?_;clear HB7 HB0 HBG HK HB7' HB0' HBG' HK' HKX c0 c1 c2 c3 f0 f1 f2 f3 hlt HE4;intro W5 ⟨h7,h0,hG,hK,hKX⟩;obtain⟨⟨r0,r1,r2,r3,r4,r5⟩,⟨q0,q1,q2,q3,q4,q5⟩,hz⟩:=boxF6 h0;obtain⟨⟨b0,b1,b2,b3,b4,b5⟩,-,-⟩:=boxF6 h7;have HB0:=hid h0;have HBG:=hid hG;have HK:=hid hK;have HKX:=hid hKX;clear h7 h0 hG hK hKX;go_wp2_with fail
  refine bodyPost_ret (v:=kv o1 o2 N2 nn2 nc2 o3 o4 A2 o5 d2) (by simp[results,Tryz.results138,go_sem,r0,r1,r2,r3,r4,r5,hz]) rfl ?_;have hk6:=HK.out.put6New (x0:=.int .i64 o1) (x1:=.bool o2) (x2:=.slice N2 nn2 nc2) (x3:=str o3) (x4:=.int .i64 o4) (x5:=.slice A2 o5 d2) HS.out;have hbx:Box (put6 W5 g0 (.int .i64 o1) (.bool o2) (.slice N2 nn2 nc2) (str o3) (.int .i64 o4) (.slice A2 o5 d2)) g (lcells (M.lfOf op l { next:=sn,held:=sh,cons:=sc,ref:=false }) hv cv) 74:=HBG.out.kept put6_kept (by simpa using HG.out);refine⟨_,rfl,HL0.out.store hk6 hbx rfl rfl,?_,hk6⟩;have e1:(M.ofT op l false).1=T1:=by rw[M.ofT_new,HT.out]
  show IsTm _ (M.ofT op l false).1 _;rw[e1];have hk7:Kept [g,g0] w2 (put6 W5 g0 (.int .i64 o1) (.bool o2) (.slice N2 nn2 nc2) (str o3) (.int .i64 o4) (.slice A2 o5 d2)):=HKX.out.trans (put6_kept.more (by intro k hk;simp at hk;subst hk;simp));refine HU.out.sub (gpv_mono hk7.1.size fun k hk hq=>⟨HL0.out.low.new (Nat.le_trans (by have:=E.out.size;exact this) hq),hk7.2 k hk (by
   have h1:W1.heap.size≤k:=hq;have h2:=HL.out.low.1.2;have h3:=HS1.out;simp;omega)⟩)
theorem _root_.Go.Proofs.YtoenjbkmiphhoaaGreatDoor.Kept.put6A {X:List Nat}{w w1:World}{k p:Nat}{x0 x1 x2 x3 x4 x5:Value}(h:Kept X w w1)(hk:k∈X∨w.heap.size≤k): Kept X w (put6A w1 k p x0 x1 x2 x3 x4 x5):=by
 rcases hk with hk|hk
 ·exact(((((h.setIn hk).setIn hk).setIn hk).setIn hk).setIn hk).setIn hk
 ·exact(((((h.setNew hk).setNew hk).setNew hk).setNew hk).setNew hk).setNew hk
def GivesH (W:World)(g:Nat)(hv cv:Value)(xs:List Value)(st:M.LS)(w:World)(e:Ending)(w':World): Prop:=
 ∃hv',e=.returned (.tuple #[])∧LSt W g hv' cv xs st w'∧Turn W.heap.size g [hv,cv] w [hv',cv] w'
theorem LSt.hold {W:World}{g:Nat}{hv hv' cv:Value}{xs:List Value}{st st':M.LS}{w w2:World}{y:M.Tm}(h:LSt W g hv cv xs st w)
 (hO:OwnL TC 6 27 W.heap.size (gp (qt g (hv::cv::xs)) w) w2 hv' (st.held++[y])) (hK:Kept (bls g [hv]) w w2)
 (hv1:hv'.ownBlock=hv.ownBlock∨∃k,hv'.ownBlock=some k∧w.heap.size≤k) (hbx:Box w2 g (lcells st' hv' cv) 74) (e1:st'.held=st.held++[y]) (e2:st'.cons=st.cons) :
 LSt W g hv' cv xs st' w2∧Turn W.heap.size g [hv,cv] w [hv',cv] w2:=by
 have hb:=hK.1;have hq:∀k,k<w.heap.size→qt g [hv] k→w2.heap[k]?=w.heap[k]?:=fun k hk hq=>hK.2 k hk (bls_not.2 hq);have hsz:=hb.size;have hWw:=h.ext.size;have hne:∀k,hv.ownBlock=some k→k≠g∧W.heap.size≤k:=fun k hk=>⟨(h.low.2 hv (by simp) k hk).2.2,(h.low.2 hv (by simp) k hk).1⟩;have hW:Below W.heap.size w w2:=⟨hb.os,hb.tape,hb.output,hb.size,fun k hk=>hq k (by omega) ⟨fun e=>by have:=h.low.1.1;omega,fun v hv e=>by simp at hv;subst hv;have:=(hne k e).2;omega⟩⟩;have hT:Turn W.heap.size g [hv,cv] w [hv',cv] w2:=⟨hW,fun k hk hq2=>by
  refine⟨⟨hq2.1,fun v hv2=>?_⟩,hq k hk ⟨hq2.1,fun v hv2=>hq2.2 v (by simp at hv2;simp[hv2])⟩⟩;simp at hv2;rcases hv2 with rfl|rfl
  ·rcases hv1 with e|⟨k',e,hk'⟩
   ·rw[e];exact hq2.2 hv (by simp)
   ·rw[e];intro e';injection e' with e';omega
  ·exact hq2.2 v (by simp)⟩
 have hcq:∀b,cv.ownBlock=some b→w2.heap[b]?=w.heap[b]?:=fun b hb2=>by
  obtain⟨a1,a2,a3⟩:=h.low.2 cv (by simp) b hb2;exact hq b a2 ⟨a3,fun v hv2 e=>by simp at hv2;subst hv2;exact h.apart b e hb2⟩
 refine⟨?_,hT⟩
 exact {
  ext:=Below.trans (B:=W.heap.size) h.ext hW
  tab:=h.tab
  low:=⟨⟨h.low.1.1,Nat.lt_of_lt_of_le h.low.1.2 hsz⟩,fun v hv2 k hk=>by
   simp only[List.mem_cons] at hv2;rcases hv2 with rfl|hv2
   ·obtain⟨a,b⟩:=hO.lt k hk;refine⟨a,b,?_⟩;rcases hv1 with e|⟨k',e,hk'⟩
    ·rw[e] at hk;exact(hne k hk).1
    ·rw[e] at hk;injection hk with hk;have:=h.low.1.2;omega
   ·obtain⟨a,b,c⟩:=h.low.2 v (by simp[hv2]) k hk;exact⟨a,by omega,c⟩⟩
  box:=hbx
  held:=by rw[e1];exact hO.world tck (hT.sub xs)
  cons:=by
   rw[e2];refine(own_kept h.cons hcq).world cck ?_;exact hT.sub xs
  apart:=fun k hk hk2=>by
   rcases hv1 with e|⟨k',e,hk'⟩
   ·rw[e] at hk;exact h.apart k hk hk2
   ·rw[e] at hk;injection hk with hk;have:=(h.low.2 cv (by simp) k hk2).2.1;omega }
set_option maxHeartbeats 8000000 in
theorem hold_l {W:World}{g:Nat}{hv cv:Value}{xs:List Value}{st:M.LS}{w:World}{l:List M.Tm}{v:Value}(h:LSt W g hv cv xs st w)(hl:Tms w l v)(hf:M.kfews l=true)(hlen:st.held.length≤900000):
 Calls Tryz.prog 137 #[.pointer (some ⟨g,0,none⟩),v] w (GivesH W g hv cv xs (M.lfHold l st) w):=by
 obtain⟨A,c,rfl⟩:=hl.shape;obtain⟨n,hn⟩:∃n,l.length=n:=⟨_,rfl⟩;rw[hn] at hl ⊢;have HO:=hid (show ∀w',Ext w w'→Calls Tryz.prog 138 #[.pointer (some ⟨g,0,none⟩),.int .i64 7,.slice A n c] w' (GivesO W g hv cv xs (M.ofT 7 l st.ref).1 (M.lfOf 7 l st) w') from fun w' e=>of_l (h.up e) (hl.up e) hf);obtain⟨HA,hc,rfl,hc1,hc2⟩:=h.held.shape;obtain⟨hn2,hhn⟩:∃n,st.held.length=n:=⟨_,rfl⟩;rw[hhn] at h hlen HO ⊢;have HL:=hid h;have HL0:=hid h;have HN:=hid hhn;have HLEN:=hid hlen;have HX:=hid (show ∀x∈bls g [.slice HA hn2 hc,cv],x<w.heap.size from fun x hx=>by
  rcases Classical.em (qt g [.slice HA hn2 hc,cv] x) with hq|hq
  ·exact absurd hx (bls_not.2 hq)
  ·by_cases hg:x=g
   ·subst hg;exact h.low.1.2
   ·have:∃v∈[Value.slice HA hn2 hc,cv],v.ownBlock=some x:=by
     apply Classical.byContradiction
     intro h2;exact hq ⟨hg,fun v hv e=>h2 ⟨v,hv,e⟩⟩
    obtain⟨v,hv,e⟩:=this;exact(h.low.2 v (by simp at hv;rcases hv with rfl|rfl<;>simp) x e).2.1)
 clear h hl hf hn hhn hlen hc1 hc2;go_enter Tryz.func137,Tryz.ntmps137
 go_upto_region 0 with (fail)
 obtain⟨y0,hy0⟩:∃y,(M.ofT 7 l st.ref).1=y:=⟨_,rfl⟩;have HY:=hid hy0
 refine wp_region_M (KeptC (bls g [.slice HA hn2 hc,cv]) ⟨g,1,none⟩ (.slice HA hn2 hc)) _ (relC _ _ _ HX.out) (fun _ k=>.slice (some ⟨k,0,none⟩) 1 1)
  [(0,0),(1,0),(2,0),(3,0),(4,0),(5,0),(7,0),(6,2),(8,3),(9,4),(10,5),(12,5),(13,5),(11,7),(14,4)] 27 zero6 (fun wd hb=>?_) (by
   intro j hj;simp[pend] at hj;subst hj;exact⟨_,rfl,rfl,fun a w=>by go_simp⟩)
 replace HL:=hid (HL.out.up hb);have E:=hid hb;clear hb;refine WM.p 4 (.pointer (some ⟨g,0,none⟩)) ?_;simp only[pX];refine WM.q 5 (.pointer (some ⟨g,0,none⟩)) rfl (fun w' hk=>by go_simp) ?_;simp only[pX];refine WM.p 6 (.pointer (some ⟨g,1,none⟩)) ?_;simp only[pX];refine WM.q 7 (.slice HA hn2 hc) rfl (fun w' hk=>by have ce:=hk.2 (HL.out.box.k 1);go_simp) ?_;simp only[pX];refine WM.p 8 (.pointer (some ⟨g,0,none⟩)) ?_;simp only[pX];refine WM.p 9 (.slice A n c) ?_;simp only[pX];refine WM.p 11 (.int .i64 (hn2:Int)) ?_;simp only[pX];refine WM.callR (d:=some 10) (f:=138) (args:=#[.pointer (some ⟨g,0,none⟩),.int .i64 7,.slice A n c]) rfl rfl (by rfl) (fun w=>by go_simp) (fun w1 hE=>?_);refine(HO.out _ (E.out.trans hE)).mono ?_;rintro e w2 ⟨u,rfl,hs,hu,hk⟩;refine⟨_,rfl,⟨hk.more (by intro k hk;simp at hk;subst hk;simp[bls]),fun _=>hs.box.k 1⟩,?_⟩;rw[hy0] at hu;have HK0:=hid (show Kept [g] w w2 from((E.out.trans hE).kept _).trans hk);have H2:=hid hs;obtain⟨N2,nn2,nc2,A2,d2,rfl,hn2',hk2⟩:=hu;have HTY:=hid (show TC (gp (qt g (.slice HA hn2 hc::cv::xs)) w2) y0 [.int .i64 y0.op,.bool y0.g,.slice N2 nn2 nc2,str y0.name,.int .i64 y0.sort,.slice A2 y0.kids.length d2] from⟨_,_,_,_,_,_,rfl,hn2',hk2⟩);obtain⟨o1,ho1⟩:∃o,y0.op=o:=⟨_,rfl⟩;obtain⟨o2,ho2⟩:∃o,y0.g=o:=⟨_,rfl⟩;obtain⟨o3,ho3⟩:∃o,y0.name=o:=⟨_,rfl⟩;obtain⟨o4,ho4⟩:∃o,y0.sort=o:=⟨_,rfl⟩;obtain⟨o5,ho5⟩:∃o,y0.kids.length=o:=⟨_,rfl⟩;rw[ho1,ho2,ho3,ho4,ho5] at HTY ⊢;clear hs hk hE hn2' hk2 ho1 ho2 ho3 ho4 ho5 HO hy0;simp only[pX];refine WM.var (d:=some 12) rfl (fun gl w3 he3 hbl hBl hGl=>?_);have HLT:=hid hbl;have E3:=hid he3;clear he3 hbl hBl hGl;simp only[pX]
 obtain⟨v',wa,hrun,hOa,hBa,hga,hva⟩:=vappL_run tck ttk (c:=1) (m:=[M.K0]) (H2.out.held.up E3.out) (lsrc_one (us:=[.int .i64 0,.bool false,.slice none 0 0,.string ⟨#[]⟩,.int .i64 0,.slice none 0 0]) ⟨none,0,0,none,0,0,rfl,LNum.nil _,Tms.nil _⟩ HLT.out)
  (show st.held.length+1≤1000000 by rw[HN.out];have:=HLEN.out;omega) (by have:=H2.out.ext.size;have:=E3.out.size;omega) 25
 have HRUN:=hid hrun;refine WM.late (d:=some 13) rfl rfl (by rfl) (kexec_app (.tmp 7) (.tmp 12) rfl rfl rfl hrun) hBa.size ?_;have HKa:=hid (show Kept (bls g [.slice HA hn2 hc]) w2 wa from(E3.out.kept _).trans ((kgrown hga).more (by intro k hk;simp[bls];right;simpa using hk)));have HBg:=hid (show Box wa g (lcells (M.lfOf 7 l st) (.slice HA hn2 hc) cv) 74 from(H2.out.box.up E3.out).kept (kgrown hga) (by intro hx;exact(H2.out.low.2 (.slice HA hn2 hc) (by simp) g (by simpa using hx)).2.2 rfl));have HVA:=hid (show v'.ownBlock=(Value.slice HA hn2 hc).ownBlock∨∃k,v'.ownBlock=some k∧w2.heap.size≤k from hva.imp id fun h=>⟨_,h,E3.out.size⟩);obtain⟨b,cap,cur,rfl,hb1,hb2,hb3,hO2⟩:=own_last hOa HTY.out;have hlh:(M.lfOf 7 l st).held.length=hn2:=HN.out;have HOL:=hid hOa;have HTT:=hid HTY.out;rw[hlh] at hb3 hO2 hrun HVA HOL ⊢;have HCU:=hid hb2;have HPS:=hid hb3;obtain⟨p,hp⟩:∃p,hn2*6=p:=⟨_,rfl⟩;have HP:=hid hp;rw[hp] at hb3 hO2;have HO2:=hid hO2;have HGB:=hid (show g≠b from fun e=>by
  subst e;rcases HVA.out with h1|⟨k,h1,h2⟩
  ·exact(H2.out.low.2 (.slice HA hn2 hc) (by simp) g (by rw[←h1];rfl)).2.2 rfl
  ·have h3:g=k:=by injection h1
   have:=H2.out.low.1.2;omega)
 have HBX:=hid (show b∈bls g [.slice HA hn2 hc]∨w2.heap.size≤b from by
  rcases HVA.out with h1|⟨k,h1,h2⟩
  ·left;simp[bls];right;rw[←h1];rfl
  ·right;have h3:b=k:=by injection h1
   omega)
 clear hrun hOa hBa hga hva hb1 hb2 hO2 hlh hp HRUN;simp only[pX];refine WM.y 14 (.pointer (some ⟨b,p,none⟩)) ?_ (hy:=fun w' _=>by have hp:=HP.out;have hq:¬((hn2:Int)+1≤(hn2:Int)):=(by omega);go_simp;done);simp only[pX];refine WM.y 15 (.pointer (some ⟨g,0,none⟩)) ?_ (hy:=fun w' _=>by go_simp);simp only[pX];refine WM.y 16 (.pointer (some ⟨g,1,none⟩)) ?_ (hy:=fun w' _=>by go_simp);simp only[pX];obtain⟨y0',q0⟩:∃y,cur[p]?=some y:=⟨_,Array.getElem?_eq_getElem (by omega)⟩;obtain⟨y1',q1⟩:∃y,cur[p+1]?=some y:=⟨_,Array.getElem?_eq_getElem (by omega)⟩;obtain⟨y2',q2⟩:∃y,cur[p+2]?=some y:=⟨_,Array.getElem?_eq_getElem (by omega)⟩;obtain⟨y3',q3⟩:∃y,cur[p+3]?=some y:=⟨_,Array.getElem?_eq_getElem (by omega)⟩;obtain⟨y4',q4⟩:∃y,cur[p+4]?=some y:=⟨_,Array.getElem?_eq_getElem (by omega)⟩;obtain⟨y5',q5⟩:∃y,cur[p+5]?=some y:=⟨_,Array.getElem?_eq_getElem (by omega)⟩;have hv':∃v',Value.slice (some ⟨b,0,none⟩) (hn2+1) cap=v':=⟨_,rfl⟩;have HE1:=hid (show ∀(w':World),Box w' b cur 27→True from fun _ _=>trivial);clear HE1
 -- the element is written
 have HEL:=hid (show ∀w',Box w' b cur 27→(w'.cell? ⟨b,p,none⟩=some y0'∧w'.cell? ⟨b,p+1,none⟩=some y1'∧w'.cell? ⟨b,p+2,none⟩=some y2'∧w'.cell? ⟨b,p+3,none⟩=some y3'∧w'.cell? ⟨b,p+4,none⟩=some y4'∧w'.cell? ⟨b,p+5,none⟩=some y5') ∧
  (w'.frozen? ⟨b,p,none⟩=false∧w'.frozen? ⟨b,p+1,none⟩=false∧w'.frozen? ⟨b,p+2,none⟩=false∧w'.frozen? ⟨b,p+3,none⟩=false∧w'.frozen? ⟨b,p+4,none⟩=false∧w'.frozen? ⟨b,p+5,none⟩=false)∧b<w'.heap.size from fun w' hb=>⟨⟨hb.cell q0,hb.cell q1,hb.cell q2,hb.cell q3,hb.cell q4,hb.cell q5⟩,⟨hb.free _,hb.free _,hb.free _,hb.free _,hb.free _,hb.free _⟩,hb.lt⟩)
 clear q0 q1 q2 q3 q4 q5 hv';have HBg2:=hid (show Box (put6A wa b p (.int .i64 o1) (.bool o2) (.slice N2 nn2 nc2) (str o3) (.int .i64 o4) (.slice A2 o5 d2)) g (lcells (M.lfOf 7 l st) (.slice HA hn2 hc) cv) 74 from(put6A_far HGB.out).trans HBg.out);have HCU2:=hid (show Box (wa.setCell ⟨g,1,none⟩ (.slice (some ⟨b,0,none⟩) (hn2+1) cap)) b cur 27 from HCU.out.far (Ne.symm HGB.out) _);have hgb:=HGB.out;have hgb':=Ne.symm HGB.out
 refine WM.stores2 (w1:=put6A wa b p (.int .i64 o1) (.bool o2) (.slice N2 nn2 nc2) (str o3) (.int .i64 o4) (.slice A2 o5 d2)) (w2:=(put6A wa b p (.int .i64 o1) (.bool o2) (.slice N2 nn2 nc2) (str o3) (.int .i64 o4) (.slice A2 o5 d2)).setCell ⟨g,1,none⟩ (.slice (some ⟨b,0,none⟩) (hn2+1) cap))
  (w1':=wa.setCell ⟨g,1,none⟩ (.slice (some ⟨b,0,none⟩) (hn2+1) cap)) (w2':=put6A (wa.setCell ⟨g,1,none⟩ (.slice (some ⟨b,0,none⟩) (hn2+1) cap)) b p (.int .i64 o1) (.bool o2) (.slice N2 nn2 nc2) (str o3) (.int .i64 o4) (.slice A2 o5 d2))
  rfl rfl (by rfl) rfl rfl (by rfl) ?e1 ?e2 ?f1 ?f2 (by simp) (by simp) (by simp) (by simp) ?g1 ?g2
 case e1=>
  obtain⟨⟨q0,q1,q2,q3,q4,q5⟩,⟨f0,f1,f2,f3,f4,f5⟩,hgz⟩:=HEL.out _ HCU.out;go_simp
 case e2=>
  obtain⟨⟨c0,c1,c2,c3⟩,⟨f0,f1,f2,f3⟩,hlt⟩:=box4l HBg2.out;generalize put6A wa b p (.int .i64 o1) (.bool o2) (.slice N2 nn2 nc2) (str o3) (.int .i64 o4) (.slice A2 o5 d2)=W9 at *;go_simp
 case f1=>
  obtain⟨⟨c0,c1,c2,c3⟩,⟨f0,f1,f2,f3⟩,hlt⟩:=box4l HBg.out;go_simp
 case f2=>
  obtain⟨⟨q0,q1,q2,q3,q4,q5⟩,⟨f0,f1,f2,f3,f4,f5⟩,hgz⟩:=HEL.out _ HCU2.out;generalize wa.setCell ⟨g,1,none⟩ (.slice (some ⟨b,0,none⟩) (hn2+1) cap)=W9 at *;go_simp
 case g1=>
  have hK:Kept (bls g [.slice HA hn2 hc]) w2 ((put6A wa b p (.int .i64 o1) (.bool o2) (.slice N2 nn2 nc2) (str o3) (.int .i64 o4) (.slice A2 o5 d2)).setCell ⟨g,1,none⟩ (.slice (some ⟨b,0,none⟩) (hn2+1) cap)):=(HKa.out.put6A HBX.out).setIn (by simp[bls]);have hB:Box ((put6A wa b p (.int .i64 o1) (.bool o2) (.slice N2 nn2 nc2) (str o3) (.int .i64 o4) (.slice A2 o5 d2)).setCell ⟨g,1,none⟩ (.slice (some ⟨b,0,none⟩) (hn2+1) cap)) g (lcells (M.lfHold l st) (.slice (some ⟨b,0,none⟩) (hn2+1) cap) cv) 74:=HBg2.out.setAt 1 _;have hO:OwnL TC 6 27 W.heap.size (gp (qt g (.slice HA hn2 hc::cv::xs)) w2) ((put6A wa b p (.int .i64 o1) (.bool o2) (.slice N2 nn2 nc2) (str o3) (.int .i64 o4) (.slice A2 o5 d2)).setCell ⟨g,1,none⟩ (.slice (some ⟨b,0,none⟩) (hn2+1) cap)) (.slice (some ⟨b,0,none⟩) (hn2+1) cap) ((M.lfOf 7 l st).held++[y0]):=own_kept HO2.out fun k hk=>Below.heap_setCell _ _ _ _ (show k≠g from fun e=>hgb (by have h9:b=k:=(by injection hk);rw[h9,e]));have HF:=hid (And.intro hK (And.intro hB hO));refine WM.done ?_;refine⟨rfl,.tuple #[],by simp[results,Tryz.results137,go_sem],?_⟩;clear hK hB hO;obtain⟨a1,a2⟩:=H2.out.hold (st':=M.lfHold l st) HF.out.2.2 HF.out.1 HVA.out HF.out.2.1 (by show st.held++[(M.ofT 7 l st.ref).1]=_;rw[HY.out];rfl) rfl;exact⟨_,rfl,a1,(HK0.out.turn HL0.out.low.1.1 HL0.out.ext.size).trans a2⟩
 case g2=>
  obtain⟨b2,cap2,cur2,e2,-,-,-,hO5⟩:=own_last (own_kept (w':=wa.setCell ⟨g,1,none⟩ (.slice (some ⟨b,0,none⟩) (hn2+1) cap)) HOL.out fun k hk=>Below.heap_setCell _ _ _ _ (show k≠g from fun e=>hgb (by have h9:b=k:=(by injection hk);rw[h9,e]))) HTT.out;rw[show (M.lfOf 7 l st).held.length=hn2 from HN.out,HP.out] at hO5;obtain rfl:b=b2:=by
   have h9:=congrArg Value.ownBlock e2;injection h9
  have hK:Kept (bls g [.slice HA hn2 hc]) w2 (put6A (wa.setCell ⟨g,1,none⟩ (.slice (some ⟨b,0,none⟩) (hn2+1) cap)) b p (.int .i64 o1) (.bool o2) (.slice N2 nn2 nc2) (str o3) (.int .i64 o4) (.slice A2 o5 d2)):=(HKa.out.setIn (by simp[bls])).put6A HBX.out;have hB:Box (put6A (wa.setCell ⟨g,1,none⟩ (.slice (some ⟨b,0,none⟩) (hn2+1) cap)) b p (.int .i64 o1) (.bool o2) (.slice N2 nn2 nc2) (str o3) (.int .i64 o4) (.slice A2 o5 d2)) g (lcells (M.lfHold l st) (.slice (some ⟨b,0,none⟩) (hn2+1) cap) cv) 74:=(put6A_far hgb).trans (HBg.out.setAt 1 _);have hO:OwnL TC 6 27 W.heap.size (gp (qt g (.slice HA hn2 hc::cv::xs)) w2) (put6A (wa.setCell ⟨g,1,none⟩ (.slice (some ⟨b,0,none⟩) (hn2+1) cap)) b p (.int .i64 o1) (.bool o2) (.slice N2 nn2 nc2) (str o3) (.int .i64 o4) (.slice A2 o5 d2)) (.slice (some ⟨b,0,none⟩) (hn2+1) cap) ((M.lfOf 7 l st).held++[y0]):=hO5;have HF:=hid (And.intro hK (And.intro hB hO));refine WM.done ?_;refine⟨rfl,.tuple #[],by simp[results,Tryz.results137,go_sem],?_⟩;clear hK hB hO;obtain⟨a1,a2⟩:=H2.out.hold (st':=M.lfHold l st) HF.out.2.2 HF.out.1 HVA.out HF.out.2.1 (by show st.held++[(M.ofT 7 l st.ref).1]=_;rw[HY.out];rfl) rfl;exact⟨_,rfl,a1,(HK0.out.turn HL0.out.low.1.1 HL0.out.ext.size).trans a2⟩
def GivesC (W:World)(g:Nat)(hv cv:Value)(xs:List Value)(t:M.Tm)(st:M.LS)(w:World)(e:Ending)(w':World): Prop:=
 ∃u cv',e=.returned u∧LSt W g hv cv' xs st w'∧IsTm w' t u∧Turn W.heap.size g [hv,cv] w [hv,cv'] w'
theorem LSt.const {W:World}{g:Nat}{hv cv cv':Value}{xs:List Value}{st st':M.LS}{w w2:World}{y:List UInt8×M.Tm}(h:LSt W g hv cv xs st w)
 (hO:OwnL CC 7 87 W.heap.size (gp (qt g (hv::cv::xs)) w) w2 cv' (st.cons++[y])) (hK:Kept (bls g [cv]) w w2)
 (hv1:cv'.ownBlock=cv.ownBlock∨∃k,cv'.ownBlock=some k∧w.heap.size≤k) (hbx:Box w2 g (lcells st' hv cv') 74) (e1:st'.held=st.held) (e2:st'.cons=st.cons++[y]) :
 LSt W g hv cv' xs st' w2∧Turn W.heap.size g [hv,cv] w [hv,cv'] w2:=by
 have hb:=hK.1;have hq:∀k,k<w.heap.size→qt g [cv] k→w2.heap[k]?=w.heap[k]?:=fun k hk hq=>hK.2 k hk (bls_not.2 hq);have hsz:=hb.size;have hWw:=h.ext.size;have hne:∀k,cv.ownBlock=some k→k≠g∧W.heap.size≤k:=fun k hk=>⟨(h.low.2 cv (by simp) k hk).2.2,(h.low.2 cv (by simp) k hk).1⟩;have hW:Below W.heap.size w w2:=⟨hb.os,hb.tape,hb.output,hb.size,fun k hk=>hq k (by omega) ⟨fun e=>by have:=h.low.1.1;omega,fun v hv e=>by simp at hv;subst hv;have:=(hne k e).2;omega⟩⟩;have hT:Turn W.heap.size g [hv,cv] w [hv,cv'] w2:=⟨hW,fun k hk hq2=>by
  refine⟨⟨hq2.1,fun v hv2=>?_⟩,hq k hk ⟨hq2.1,fun v hv2=>hq2.2 v (by simp at hv2;simp[hv2])⟩⟩;simp at hv2;rcases hv2 with rfl|rfl
  ·exact hq2.2 v (by simp)
  ·rcases hv1 with e|⟨k',e,hk'⟩
   ·rw[e];exact hq2.2 cv (by simp)
   ·rw[e];intro e';injection e' with e';omega⟩
 have hcq:∀b,hv.ownBlock=some b→w2.heap[b]?=w.heap[b]?:=fun b hb2=>by
  obtain⟨a1,a2,a3⟩:=h.low.2 hv (by simp) b hb2;exact hq b a2 ⟨a3,fun v hv2 e=>by simp at hv2;subst hv2;exact h.apart b hb2 e⟩
 refine⟨?_,hT⟩
 exact {
  ext:=Below.trans (B:=W.heap.size) h.ext hW
  tab:=h.tab
  low:=⟨⟨h.low.1.1,Nat.lt_of_lt_of_le h.low.1.2 hsz⟩,fun v hv2 k hk=>by
   simp only[List.mem_cons] at hv2;rcases hv2 with rfl|rfl|hv2
   ·obtain⟨a,b,c⟩:=h.low.2 v (by simp) k hk;exact⟨a,by omega,c⟩
   ·obtain⟨a,b⟩:=hO.lt k hk;refine⟨a,b,?_⟩;rcases hv1 with e|⟨k',e,hk'⟩
    ·rw[e] at hk;exact(hne k hk).1
    ·rw[e] at hk;injection hk with hk;have:=h.low.1.2;omega
   ·obtain⟨a,b,c⟩:=h.low.2 v (by simp[hv2]) k hk;exact⟨a,by omega,c⟩⟩
  box:=hbx
  held:=by
   rw[e1];refine(own_kept h.held hcq).world tck ?_;exact hT.sub xs
  cons:=by rw[e2];exact hO.world cck (hT.sub xs)
  apart:=fun k hk hk2=>by
   rcases hv1 with e|⟨k',e,hk'⟩
   ·rw[e] at hk2;exact h.apart k hk hk2
   ·rw[e] at hk2;injection hk2 with hk2;have:=(h.low.2 hv (by simp) k hk).2.1;omega }
set_option maxHeartbeats 8000000 in
theorem constant_l {W:World}{g:Nat}{hv cv:Value}{xs:List Value}{st:M.LS}{w:World}{t:M.Tm}{v:Value}(h:LSt W g hv cv xs st w)(ht:IsTm (gp (qt g (hv::cv::xs)) w) t v)(hnx:-9000000000000000000≤st.next∧st.next≤9000000000000000000)(hlen:st.cons.length≤900000):
 Calls Tryz.prog 135 #[.pointer (some ⟨g,0,none⟩),v] w (GivesC W g hv cv xs (M.frT st.next 2) (M.lfNew t st) w):=by
 obtain⟨N,nn,nc,A,c,rfl,hn,hks⟩:=ht;obtain⟨o1,ho1⟩:∃o,t.op=o:=⟨_,rfl⟩;obtain⟨o2,ho2⟩:∃o,t.g=o:=⟨_,rfl⟩;obtain⟨o3,ho3⟩:∃o,t.name=o:=⟨_,rfl⟩;obtain⟨o4,ho4⟩:∃o,t.sort=o:=⟨_,rfl⟩;obtain⟨o5,ho5⟩:∃o,t.kids.length=o:=⟨_,rfl⟩;have HTC:=hid (show CC (gp (qt g (hv::cv::xs)) w) (M.frName st.next,t) [str (M.frName st.next),.int .i64 o1,.bool o2,.slice N nn nc,str o3,.int .i64 o4,.slice A o5 c] from by
  rw[←ho1,←ho2,←ho3,←ho4,←ho5];exact⟨_,_,_,_,_,_,rfl,hn,hks⟩)
 have HNX:=hid hnx;have HLEN:=hid hlen;have HL:=hid h;have HL0:=hid h;have HFR:=hid (show ∀w',TabL w'→Calls Tryz.prog 16 #[.int .i64 st.next,.int .i64 2] w' (GivesT1 w' (M.frT st.next 2)) from fun w' ht=>lFresh_n (by have:=hnx.2;omega) w' ht.2);obtain⟨CA,cc,rfl,hc1,hc2⟩:=h.cons.shape;obtain⟨cn,hcn⟩:∃n,st.cons.length=n:=⟨_,rfl⟩;rw[hcn] at HL HL0 HTC ⊢;have HCN:=hid hcn;rw[ho1,ho2,ho3,ho4,ho5];have HB0:=hid (show Box ((w.alloc (.cells #[.int .i64 o1,.bool o2,.slice N nn nc,str o3,.int .i64 o4,.slice A o5 c] 27)).alloc (.cells zero6 27)) w.heap.size #[.int .i64 o1,.bool o2,.slice N nn nc,str o3,.int .i64 o4,.slice A o5 c] 27 from(Box.new w _ _).alloc _);have HB1:=hid (show Box ((w.alloc (.cells #[.int .i64 o1,.bool o2,.slice N nn nc,str o3,.int .i64 o4,.slice A o5 c] 27)).alloc (.cells zero6 27)) (w.heap.size+1) zero6 27 from Box.at_ (w:=w.alloc (.cells #[.int .i64 o1,.bool o2,.slice N nn nc,str o3,.int .i64 o4,.slice A o5 c] 27)) _ _ (by simp));have E0:=hid (alloc_two w (.cells #[.int .i64 o1,.bool o2,.slice N nn nc,str o3,.int .i64 o4,.slice A o5 c] 27) (.cells zero6 27));clear h hn hks hnx hlen hc1 hc2 hcn ho1 ho2 ho3 ho4 ho5;go_enter Tryz.func135,Tryz.ntmps135
 go_upto_region 1 with (fail)
 refine vwp_at (fun W'=>Box W' w.heap.size #[.int .i64 o1,.bool o2,.slice N nn nc,str o3,.int .i64 o4,.slice A o5 c] 27∧Box W' (w.heap.size+1) zero6 27∧Ext w W') ⟨HB0.out,HB1.out,E0.out⟩ ?_;clear HB0 HB1 E0;intro W1 ⟨hb0,hb1,he⟩;obtain⟨g0,hg0⟩:∃g,w.heap.size=g:=⟨_,rfl⟩;have HG:=hid hg0;rw[hg0] at hb0 hb1 ⊢;have HB0:=hid hb0;have HB1:=hid hb1;have E:=hid he;clear hb0 hb1 he hg0;replace HL:=hid (HL.out.up E.out);obtain⟨⟨c0,c1,c2,c3⟩,-,hlt⟩:=box4l HL.out.box;go_wp2_with fail
 refine(HFR.out _ HL.out.tabl).mono ?_;rintro e w2 ⟨u,rfl,hu,hx⟩;have HU:=hid hu;obtain⟨N2,nn2,nc2,A2,d2,rfl,-,-⟩:=hu;replace HL:=hid (HL.out.up hx);replace HB0:=hid (HB0.out.up hx);replace HB1:=hid (HB1.out.up hx);replace E:=hid (E.out.trans hx);have hw:IntKind.i64.wrap (st.next+1)=st.next+1:=by have:=HNX.out;rw[IntKind.wrap_i64];omega
 obtain⟨fnm,hfn⟩:∃x,M.frName st.next=x:=⟨_,rfl⟩;have HFN:=hid hfn;rw[show M.frT st.next 2=.mk 4 false [] fnm 2 [] by rw[←hfn];rfl] at HU ⊢;rw[hfn] at HTC;simp only[show (M.Tm.mk 4 false [] fnm 2 []).op=4 from rfl,show (M.Tm.mk 4 false [] fnm 2 []).g=false from rfl,show (M.Tm.mk 4 false [] fnm 2 []).name=fnm from rfl,show (M.Tm.mk 4 false [] fnm 2 []).sort=2 from rfl,show (M.Tm.mk 4 false [] fnm 2 []).kids.length=0 from rfl];clear hx c0 c1 c2 c3 hlt hfn HFR;go_upto_region 2 with (fail)
 refine vwp_at (fun W=>Box W w2.heap.size #[.int .i64 4,.bool false,.slice N2 nn2 nc2,str fnm,.int .i64 2,.slice A2 0 d2] 27∧Ext w2 W) ⟨Box.new w2 _ _,Ext.alloc w2 _⟩ ?_;intro W4 ⟨hb7,he⟩;obtain⟨k5,hk5⟩:∃k,w2.heap.size=k:=⟨_,rfl⟩;have HN5:=hid (show g≠k5∧g0≠k5∧g0+1≠k5∧w.heap.size≤k5 by have:=HL.out.low.1.2;have:=HB0.out.lt;have:=HB1.out.lt;have:=HG.out;omega);rw[hk5] at hb7 ⊢;have HB5:=hid hb7;replace HL:=hid (HL.out.up he);replace HB0:=hid (HB0.out.up he);replace HB1:=hid (HB1.out.up he);replace HU:=hid (HU.out.up he);replace E:=hid (E.out.trans he);clear hb7 he hk5;have HGG:=hid (show g≠g0∧g≠g0+1 by have:=HL0.out.low.1.2;have:=HG.out;omega);obtain⟨⟨c0,c1,c2,c3⟩,⟨f0,f1,f2,f3⟩,hlt⟩:=box4l HL.out.box;go_upto_region 3 with (fail)
 have hK4:Kept [g] W4 (W4.setCell ⟨g,0,none⟩ (.int .i64 (st.next+1))):=kept_setAt _;have hL4:LSt W g hv (.slice CA cn cc) xs { st with next:=st.next+1 } (W4.setCell ⟨g,0,none⟩ (.int .i64 (st.next+1))):=HL.out.store hK4 (HL.out.box.setAt 0 _) rfl rfl;have HF:=hid (And.intro hL4 (And.intro ((E.out.kept _).trans hK4) (And.intro (HB0.out.far (p:=⟨g,0,none⟩) (Ne.symm HGG.out.1) (.int .i64 (st.next+1))) (And.intro (HB1.out.far (p:=⟨g,0,none⟩) (Ne.symm HGG.out.2) (.int .i64 (st.next+1))) (HB5.out.far (p:=⟨g,0,none⟩) (Ne.symm HN5.out.1) (.int .i64 (st.next+1)))))));refine vwp_at (fun W5=>LSt W g hv (.slice CA cn cc) xs { st with next:=st.next+1 } W5∧Kept [g] w W5∧Box W5 g0 #[.int .i64 o1,.bool o2,.slice N nn nc,str o3,.int .i64 o4,.slice A o5 c] 27∧Box W5 (g0+1) zero6 27∧Box W5 k5 #[.int .i64 4,.bool false,.slice N2 nn2 nc2,str fnm,.int .i64 2,.slice A2 0 d2] 27) HF.out ?_;clear hK4 hL4 HF c0 c1 c2 c3 f0 f1 f2 f3 hlt HB0 HB1 HB5 HL E hw;intro W5 ⟨hL,hK,hb0,hb1,hb5⟩;have HL:=hid hL;have HK:=hid hK;have HB0:=hid hb0;have HB1:=hid hb1;have HB5:=hid hb5;clear hL hK hb0 hb1 hb5;have HNO:=hid (show ∀b,b∈(Value.slice CA cn cc).ownBlock.toList→b≠g∧b≠g0∧b≠g0+1∧b≠k5 from fun b hb=>by
  have h1:=HL0.out.low.2 (.slice CA cn cc) (by simp) b (by simpa using hb);have h2:=HG.out;have h3:=HN5.out;omega)
 refine wp_region_K (Value.slice CA cn cc).ownBlock.toList [(0,0),(1,0),(2,0),(3,0),(4,0),(5,0),(6,0),(7,0),(8,0),(9,1),(10,1),(11,2),(12,2),(13,3)] fun wd hb=>?_;replace HL:=hid (HL.out.up hb);replace HK:=hid (HK.out.trans (hb.kept _));replace HB0:=hid (HB0.out.up hb);replace HB1:=hid (HB1.out.up hb);replace HB5:=hid (HB5.out.up hb);clear hb;have HLTG:=hid HB1.out.lt;refine WK.p 18 (.pointer (some ⟨g,0,none⟩)) ?_;simp only[pX];refine WK.p 19 (.pointer (some ⟨g,0,none⟩)) ?_;simp only[pX];refine WK.q 20 (.pointer (some ⟨g,0,none⟩)) rfl (fun w' hk=>by go_simp) ?_;simp only[pX];refine WK.p 21 (.pointer (some ⟨g,2,none⟩)) ?_;simp only[pX];refine WK.q 22 (.slice CA cn cc) rfl (fun w' hk=>by have ce:=(HL.out.box.kept hk (fun h=>(HNO.out _ h).1 rfl)).k 2;go_simp) ?_;simp only[pX];refine WK.p 23 (.pointer (some ⟨k5,3,none⟩)) ?_;simp only[pX];refine WK.q 24 (str fnm) rfl (fun w' hk=>by have ce:=(HB5.out.kept hk (fun h=>(HNO.out _ h).2.2.2 rfl)).k 3;go_simp) ?_;simp only[pX];refine WK.q 25 (kv o1 o2 N nn nc o3 o4 A o5 c) rfl (fun w' hk=>by obtain⟨⟨x0,x1,x2,x3,x4,x5⟩,-,-⟩:=boxF6 (HB0.out.kept hk (fun h=>(HNO.out _ h).2.1 rfl));go_simp) ?_;simp only[pX];refine WK.p 26 (.agg #[str fnm,.int .i64 o1,.bool o2,.slice N nn nc,str o3,.int .i64 o4,.slice A o5 c]) ?_;simp only[pX];refine WK.act 27 (v:=.slice (some ⟨wd.heap.size,0,none⟩) 1 1) (w':=wd.alloc (.cells #[str fnm,.int .i64 o1,.bool o2,.slice N nn nc,str o3,.int .i64 o4,.slice A o5 c] 87)) rfl (by go_simp) ((Ext.alloc _ _).kept _) ?_;have HBL:=hid (Box.new wd #[str fnm,.int .i64 o1,.bool o2,.slice N nn nc,str o3,.int .i64 o4,.slice A o5 c] 87);have E6:=hid (Ext.alloc wd (.cells #[str fnm,.int .i64 o1,.bool o2,.slice N nn nc,str o3,.int .i64 o4,.slice A o5 c] 87));obtain⟨w6,hw6⟩:∃w6,wd.alloc (.cells #[str fnm,.int .i64 o1,.bool o2,.slice N nn nc,str o3,.int .i64 o4,.slice A o5 c] 87)=w6:=⟨_,rfl⟩;obtain⟨g6,hg6⟩:∃g6,wd.heap.size=g6:=⟨_,rfl⟩;rw[hw6,hg6] at HBL;rw[hw6] at E6 ⊢;rw[hg6];clear hw6 hg6;simp only[pX];have HOC:=hid (show OwnL CC 7 87 W.heap.size (gp (qt g (hv::.slice CA cn cc::xs)) w) wd (.slice CA cn cc) st.cons from own_kept HL0.out.cons fun b hb=>HK.out.2 b (HL0.out.low.2 (.slice CA cn cc) (by simp) b hb).2.1 (by simpa using (HL0.out.low.2 (.slice CA cn cc) (by simp) b hb).2.2))
 obtain⟨v',wa,hrun,hOa,hBa,hga,hva⟩:=vappL_run cck ctk (c:=1) (m:=[(fnm,t)]) (HOC.out.up E6.out) (lsrc_one (us:=[str fnm,.int .i64 o1,.bool o2,.slice N nn nc,str o3,.int .i64 o4,.slice A o5 c]) HTC.out HBL.out)
  (show st.cons.length+1≤1000000 by have:=HLEN.out;omega) (by have:=HL.out.ext.size;have:=E6.out.size;omega) 72
 refine WK.act 28 rfl (kexec_app (.tmp 22) (.tmp 27) rfl rfl rfl hrun) (kgrown hga) ?_;obtain⟨A9,c9,rfl,-,-⟩:=hOa.shape;rw[show (st.cons++[(fnm,t)]).length=cn+1 by simp[HCN.out]] at hOa hva ⊢;have HOa:=hid hOa;have HKa:=hid (show Kept (bls g [.slice CA cn cc]) wd wa from(E6.out.kept _).trans ((kgrown hga).more (by intro k hk;simp[bls];right;simpa using hk)));have HBg:=hid (show Box wa g (lcells { st with next:=st.next+1 } hv (.slice CA cn cc)) 74 from(HL.out.box.up E6.out).kept (kgrown hga) (fun hx=>(HNO.out _ hx).1 rfl));have HVA:=hid (show (Value.slice A9 (cn+1) c9).ownBlock=(Value.slice CA cn cc).ownBlock∨∃k,(Value.slice A9 (cn+1) c9).ownBlock=some k∧wd.heap.size≤k from hva.imp id fun h=>⟨_,h,E6.out.size⟩);replace HB1:=hid ((HB1.out.up E6.out).kept (kgrown hga) (fun hx=>(HNO.out _ hx).2.2.1 rfl));replace HB5:=hid ((HB5.out.up E6.out).kept (kgrown hga) (fun hx=>(HNO.out _ hx).2.2.2 rfl));have HKU:=hid (show Kept (bls g [.slice CA cn cc]) wd wa from HKa.out);clear hrun hOa hBa hga hva HBL E6;simp only[pX];refine WK.y 29 (.pointer (some ⟨g,0,none⟩)) ?_;simp only[pX];refine WK.y 30 (.pointer (some ⟨g,2,none⟩)) ?_;simp only[pX];obtain⟨⟨c0,c1,c2,c3⟩,⟨f0,f1,f2,f3⟩,hlt⟩:=box4l HBg.out;refine WK.st (w':=wa.setCell ⟨g,2,none⟩ (.slice A9 (cn+1) c9)) ?_;refine WK.done ?_;clear c0 c1 c2 c3 f0 f1 f2 f3 hlt;have hB:Box (wa.setCell ⟨g,2,none⟩ (.slice A9 (cn+1) c9)) g (lcells { st with next:=st.next+1 } hv (.slice A9 (cn+1) c9)) 74:=HBg.out.setAt 2 _
 have HF:=hid (And.intro hB (And.intro ((((HK.out.more (Y:=bls g [.slice CA cn cc]) (by intro k hk;simp at hk;subst hk;simp[bls])).trans HKa.out).setIn (k:=g) (o:=2) (u:=.slice A9 (cn+1) c9) (by simp[bls]))) (And.intro (HB1.out.far (p:=⟨g,2,none⟩) (Ne.symm HGG.out.2) (.slice A9 (cn+1) c9)) (And.intro (HB5.out.far (p:=⟨g,2,none⟩) (Ne.symm HN5.out.1) (.slice A9 (cn+1) c9))
  (show OwnL CC 7 87 W.heap.size (gp (qt g (hv::.slice CA cn cc::xs)) w) (wa.setCell ⟨g,2,none⟩ (.slice A9 (cn+1) c9)) (.slice A9 (cn+1) c9) (st.cons++[(fnm,t)]) from own_kept HOa.out fun k hk=>Below.heap_setCell _ _ _ _ (show k≠g from fun e=>by
   rcases HVA.out with h1|⟨k',h1,h2⟩
   ·rw[h1] at hk;exact(HL0.out.low.2 (.slice CA cn cc) (by simp) k hk).2.2 e
   ·rw[h1] at hk;injection hk with hk;have:=HL0.out.low.1.2;have:=HK.out.1.size;omega))))))
 have HVW:=hid (show (Value.slice A9 (cn+1) c9).ownBlock=(Value.slice CA cn cc).ownBlock∨∃k,(Value.slice A9 (cn+1) c9).ownBlock=some k∧w.heap.size≤k from HVA.out.imp id fun⟨k,h1,h2⟩=>⟨k,h1,Nat.le_trans HK.out.1.size h2⟩);have HVX:=hid (show ∀k,(Value.slice A9 (cn+1) c9).ownBlock=some k→k≠g0+1 from fun k hk e=>by
  rcases HVA.out with h1|⟨k',h1,h2⟩
  ·rw[h1] at hk;exact(HNO.out k (by simpa using hk)).2.2.1 e
  ·rw[h1] at hk;injection hk with hk;have:=HLTG.out;omega)
 obtain⟨W7,hW7⟩:∃W7,W7=wa.setCell ⟨g,2,none⟩ (.slice A9 (cn+1) c9):=⟨_,rfl⟩;rw[←hW7] at HF ⊢;obtain⟨hb,hk,hb1,hb5,hO⟩:=HF.out;clear hB HF HBg HKa HKU HOa HB1 HB5 HL HK HVA HOC HB0 hW7;have HBg:=hid hb;have HK:=hid hk;have HB1:=hid hb1;have HO:=hid hO;obtain⟨⟨r0,r1,r2,r3,r4,r5⟩,⟨q0,q1,q2,q3,q4,q5⟩,hz⟩:=boxF6 hb1;obtain⟨⟨b0,b1,b2,b3,b4,b5⟩,-,-⟩:=boxF6 hb5;clear hb hk hb1 hb5 hO;go_wp2_with fail
 refine bodyPost_ret (v:=kv 4 false N2 nn2 nc2 fnm 2 A2 0 d2) (by simp[results,Tryz.results135,go_sem,r0,r1,r2,r3,r4,r5,hz]) rfl ?_;have hk7:=HK.out.put6New (k:=g0+1) (x0:=.int .i64 4) (x1:=.bool false) (x2:=.slice N2 nn2 nc2) (x3:=str fnm) (x4:=.int .i64 2) (x5:=.slice A2 0 d2) (by have:=HG.out;omega);have hbx:Box (put6 W7 (g0+1) (.int .i64 4) (.bool false) (.slice N2 nn2 nc2) (str fnm) (.int .i64 2) (.slice A2 0 d2)) g (lcells (M.lfNew t st) hv (.slice A9 (cn+1) c9)) 74:=HBg.out.kept put6_kept (by simpa using HGG.out.2);have hO7:OwnL CC 7 87 W.heap.size (gp (qt g (hv::.slice CA cn cc::xs)) w) (put6 W7 (g0+1) (.int .i64 4) (.bool false) (.slice N2 nn2 nc2) (str fnm) (.int .i64 2) (.slice A2 0 d2)) (.slice A9 (cn+1) c9) (st.cons++[(fnm,t)]):=own_kept HO.out fun k hk=>put6_kept.2 k (HO.out.lt k hk).2 (by simpa using HVX.out k hk);obtain⟨a1,a2⟩:=HL0.out.const (st':=M.lfNew t st) hO7 hk7 HVW.out hbx rfl (by show st.cons++[(M.frName st.next,t)]=_;rw[HFN.out]);exact⟨_,_,rfl,a1,by rw[show M.frT st.next 2=.mk 4 false [] fnm 2 [] by rw[←HFN.out];rfl];exact HU.out.any rfl rfl,a2⟩
end Go.Proofs.YtoenjbkmiphhoaaGreatDoor.Q
