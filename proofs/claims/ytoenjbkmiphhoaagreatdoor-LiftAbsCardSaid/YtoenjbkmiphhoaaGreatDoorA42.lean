/-
  Package lift: terms and term.
-/
import Derived.Test.YtoenjbkmiphhoaaGreatDoorA40
import Derived.Test.YtoenjbkmiphhoaaGreatDoorA41
namespace Go.Proofs.YtoenjbkmiphhoaaGreatDoor.Q
set_option linter.unusedSimpArgs false
set_option linter.unusedVariables false
open Go.RowKit
theorem wpList_appL {α:Type}{C:World→α→List Value→Prop}{sz:Nat}{T tS:TypeId}(K:CKind C sz)(KT:TKind sz tS T){B:Nat}{V w:World}{ops:Array Oper}{rest:List Oper}{o:Oper}{a:Act}{Q:Exit→Act→World→Prop}(hgd:o.guard=none)(s x:Operand)
 {v:Value} {l m:List α} {A:Option Addr} {n c:Nat} (ho:o.op=.call { callee:=.builtin .append,args:=#[s,x],argTypes:=#[tS,tS] }) (hs:a.eval s=v) (hx:a.eval x=.slice A n c) (h:OwnL C sz T B V w v l) (hsrc:LSrc C V w m A n) (hlen:l.length+m.length≤1000000) (hbase:B≤w.heap.size)
 (hk:∀v' w',OwnL C sz T B V w' v' (l++m)→Below B w w'→w.grownBy w' v.ownBlock→(v'.ownBlock=v.ownBlock∨v'.ownBlock=some w.heap.size)→wpList Tryz.prog ops Q rest (a.put o.dst v') w'):wpList Tryz.prog ops Q (o::rest) a w:=by
 obtain⟨v',w',hr,h2,h3,h4,h5⟩:=vappL_run K KT (c:=c) h hsrc hlen hbase o.type;refine wpList_plain hgd fun K hK=>?_;unfold Oper.wp execOp;simp only[ho,resolve,invoke,builtin,Sem.run_bind,Sem.run_pure,Result.andThen_ok,List.map_toArray,List.map_cons,List.map_nil,hs,hx,hr];exact hK _ _ (hk v' w' h2 h3 h4 h5)
def GivesLs (W:World)(g:Nat)(hv cv:Value)(xs:List Value)(l:List M.Tm)(st:M.LS)(w:World)(e:Ending)(w':World): Prop:=
 ∃u hv' cv',e=.returned u∧LSt W g hv' cv' xs st w'∧Tms (gp (qt g (hv'::cv'::xs)) w') l u∧Turn W.heap.size g [hv,cv] w [hv',cv'] w'
def TermL (t:M.Tm): Prop:=∀(W:World) (g:Nat) (hv cv:Value) (xs:List Value) (st:M.LS) (w:World) (v:Value),LSt W g hv cv xs st w→IsTm (gp (qt g (hv::cv::xs)) w) t v→M.Room (M.kcnt t) st →
 Calls Tryz.prog 62 #[.pointer (some ⟨g,0,none⟩),v] w (GivesL W g hv cv xs (M.lfT t st).1 (M.lfT t st).2 w)
set_option maxHeartbeats 8000000 in
theorem terms_l {W:World}{g:Nat}{hv cv:Value}{xs:List Value}{st:M.LS}{w:World}{l:List M.Tm}{v:Value}(h:LSt W g hv cv xs st w)(hl:Tms (gp (qt g (hv::cv::xs)) w) l v)(hlen:l.length≤100000)(hr:M.Room (M.kcnts l) st)
 (ih:∀(k:Nat) (t:M.Tm),l[k]?=some t→TermL t):Calls Tryz.prog 94 #[.pointer (some ⟨g,0,none⟩),v] w (GivesLs W g hv cv xs (M.lfTs l st).1 (M.lfTs l st).2 w):=by
 obtain⟨A,c,rfl⟩:=hl.shape;obtain⟨-,hl2,hl3⟩:=hl.le;obtain⟨n,hn⟩:∃n,l.length=n:=⟨_,rfl⟩;rw[hn] at hl hl2 hlen ⊢;have HK:=hid hl;have HN:=hid hn;have HI:=hid ih;have HRM:=hid hr;have HL0:=hid h;have HWW:=hid h.ext.size;clear h hl hn ih hr;go_enter Tryz.func94,Tryz.ntmps94
 go_wp2_with fail
 go_loopw[5,10] (fun x i wr=>∃(k:Nat) (hv' cv':Value),k≤n∧i=.int .i64 k∧Hid (LSt W g hv' cv' (x::xs) (M.lfTs (l.take k) st).2 wr∧OwnL TC 6 27 w.heap.size (gp (qt g (hv'::cv'::x::xs)) wr) wr x (M.lfTs (l.take k) st).1∧(∀b,x.ownBlock=some b→qt g (hv'::cv'::xs) b)∧Turn W.heap.size g [hv,cv] w [hv',cv'] wr)) (fun _ i _=>n-(intOf i).toNat)
 case atStart=>exact⟨0,hv,cv,Nat.zero_le _,rfl,HL0.out.push rfl,OwnL.nil _ _ _ _,(fun b hb=>by cases hb),Turn.refl _ _ _ _⟩
 case round=>
  obtain⟨k,hv1,cv1,hk,rfl,hR⟩:=hrel;have HR:=hid hR.out;have HS:=hid HR.out.1;have HO:=hid HR.out.2.1;have HXQ:=hid HR.out.2.2.1;have HT:=hid HR.out.2.2.2;clear hR HR;obtain⟨L,hL⟩:∃L,(M.lfTs (l.take k) st).1=L:=⟨_,rfl⟩;obtain⟨sk,hsk⟩:∃s,(M.lfTs (l.take k) st).2=s:=⟨_,rfl⟩;have HL:=hid hL;have HSK:=hid hsk;rw[hL] at HO;rw[hsk] at HS;obtain⟨ln,hln⟩:∃n,L.length=n:=⟨_,rfl⟩;have HLK:=hid (show ln=k by rw[←hln,←hL,M.lfTs_len,List.length_take,HN.out];omega);obtain⟨IA,ic,rfl,-,-⟩:=HO.out.shape;rw[hln] at HO HXQ HS ⊢;have HLN:=hid hln;clear hL hsk hln;rcases Nat.lt_or_ge k n with hlt|hge
  ·have hlt':(k:Int)<(n:Int):=by omega
   have HSub:=hid (show Sub (gp (qt g (hv::cv::xs)) w) (gp (qt g (hv1::cv1::.slice IA ln ic::xs)) wr) from gpv_mono HT.out.size fun b hb hq=>by
    obtain⟨a1,a2⟩:=HT.out.2 b hb ⟨hq.1,fun v hv2=>hq.2 v (by simp at hv2;rcases hv2 with rfl|rfl<;>simp)⟩;refine⟨⟨a1.1,fun v hv2 e=>?_⟩,a2⟩;simp only[List.mem_cons] at hv2;rcases hv2 with rfl|rfl|rfl|hv2
    ·exact a1.2 _ (by simp) e
    ·exact a1.2 _ (by simp) e
    ·have:=(HO.out.lt b e).1;omega
    ·exact hq.2 v (by simp[hv2]) e)
   obtain⟨ad,t,N,nn,nc,B,d,rfl,ht,⟨c0,c1,c2,c3,c4,c5⟩,hit⟩:=(HK.out.sub HSub.out).get hlt;replace c0:=(gp_cell.1 c0).2;replace c1:=(gp_cell.1 c1).2;replace c2:=(gp_cell.1 c2).2;replace c3:=(gp_cell.1 c3).2;replace c4:=(gp_cell.1 c4).2;replace c5:=(gp_cell.1 c5).2;have HU:=hid ht;have HRk:=hid (show M.Room (M.kcnt t) sk from by
    have h1:=M.kcnts_take_le l (k+1);rw[M.kcnts_take ht] at h1;rw[←HSK.out];exact M.lfTs_rooms (HRM.out.less (by omega)))
   have HC:=hid (fun w' (e:Ext wr w')=>HI.out k t ht W g hv1 cv1 (.slice IA ln ic::xs) sk w' _ (HS.out.up e) (hit.sub (gp_extV e)) HRk.out);obtain⟨o1,ho1⟩:∃o,t.op=o:=⟨_,rfl⟩;obtain⟨o2,ho2⟩:∃o,t.g=o:=⟨_,rfl⟩;obtain⟨o3,ho3⟩:∃o,t.name=o:=⟨_,rfl⟩;obtain⟨o4,ho4⟩:∃o,t.sort=o:=⟨_,rfl⟩;obtain⟨o5,ho5⟩:∃o,t.kids.length=o:=⟨_,rfl⟩;rw[ho1] at c0 HC;rw[ho2] at c1 HC;rw[ho3] at c3 HC;rw[ho4] at c4 HC;rw[ho5] at c5 HC;have EB:=hid (Ext.alloc wr (.cells #[.int .i64 o1,.bool o2,.slice N nn nc,str o3,.int .i64 o4,.slice B o5 d] 27));obtain⟨⟨b0,b1,b2,b3,b4,b5⟩,-,-⟩:=boxF6 (Box.new wr #[.int .i64 o1,.bool o2,.slice N nn nc,str o3,.int .i64 o4,.slice B o5 d] 27);clear ht hit ho1 ho2 ho3 ho4 ho5;go_wp2_with fail
   refine(HC.out _ EB.out).mono ?_;rintro e w3 ⟨u,hv2,cv2,rfl,hs3,hu3,ht3⟩;have H3:=hid hs3;have HT3:=hid (show Turn W.heap.size g [hv1,cv1] wr [hv2,cv2] w3 from(Turn.ext (Nat.le_trans HWW.out HT.out.size) EB.out).trans ht3);obtain⟨y,hy⟩:∃y,(M.lfT t sk).1=y:=⟨_,rfl⟩;obtain⟨s3,hs3'⟩:∃s,(M.lfT t sk).2=s:=⟨_,rfl⟩;have HY:=hid hy;have HS3:=hid hs3';rw[hy] at hu3;rw[hs3'] at H3;obtain⟨N2,nn2,nc2,A2,d2,rfl,hn2,hk2⟩:=hu3;have HTY:=hid (show TC (gp (qt g (hv2::cv2::.slice IA ln ic::xs)) w3) y [.int .i64 y.op,.bool y.g,.slice N2 nn2 nc2,str y.name,.int .i64 y.sort,.slice A2 y.kids.length d2] from⟨_,_,_,_,_,_,rfl,hn2,hk2⟩);obtain⟨q1,hq1⟩:∃o,y.op=o:=⟨_,rfl⟩;obtain⟨q2,hq2⟩:∃o,y.g=o:=⟨_,rfl⟩;obtain⟨q3,hq3⟩:∃o,y.name=o:=⟨_,rfl⟩;obtain⟨q4,hq4⟩:∃o,y.sort=o:=⟨_,rfl⟩;obtain⟨q5,hq5⟩:∃o,y.kids.length=o:=⟨_,rfl⟩;rw[hq1,hq2,hq3,hq4,hq5] at HTY ⊢;have HQ1:=hid (show ∀b,(Value.slice IA ln ic).ownBlock=some b→qt g (hv2::cv2::xs) b from fun b hb=>by
    obtain⟨a1,a2⟩:=HXQ.out b hb;have h1:=(HT3.out.2 b (HO.out.lt b hb).2 ⟨a1,fun v hv2=>a2 v (by simp at hv2;rcases hv2 with rfl|rfl<;>simp)⟩).1;refine⟨h1.1,fun v hv2=>?_⟩;simp only[List.mem_cons] at hv2;rcases hv2 with rfl|rfl|hv2
    ·exact h1.2 _ (by simp)
    ·exact h1.2 _ (by simp)
    ·exact a2 v (by simp[hv2]))
   have HO3:=hid (show OwnL TC 6 27 w.heap.size (gp (qt g (hv2::cv2::.slice IA ln ic::xs)) w3) w3 (.slice IA ln ic) L from(own_kept HO.out fun b hb=>(HT3.out.2 b (HO.out.lt b hb).2 ⟨(HXQ.out b hb).1,fun v hv2=>(HXQ.out b hb).2 v (by simp at hv2;rcases hv2 with rfl|rfl<;>simp)⟩).2).world tck (HT3.out.sub (.slice IA ln ic::xs)));have HSZ:=hid (show w.heap.size≤w3.heap.size from Nat.le_trans HT.out.size HT3.out.size);have HTA:=hid (HT.out.trans HT3.out);clear hs3 ht3 hy hs3' hn2 hk2 hq1 hq2 hq3 hq4 hq5 c0 c1 c2 c3 c4 c5 b0 b1 b2 b3 b4 b5 HC EB HT3 HT HXQ HO HS HSub;go_wp2_with (at_builtin;refine wpList_appL tck ttk rfl (.tmp 14) (.tmp 18) rfl (B:=w.heap.size) (V:=gp (qt g (hv2::cv2::.slice IA ln ic::xs)) (w3.alloc (.cells #[.int .i64 q1,.bool q2,.slice N2 nn2 nc2,str q3,.int .i64 q4,.slice A2 q5 d2] 27))) (l:=L) (m:=[y]) (A:=some ⟨w3.heap.size,0,none⟩) (n:=1) (c:=1) rfl rfl ?own ?src ?len ?base ?_)
   case own=>exact(HO3.out.up (Ext.alloc w3 _)).world tck (gp_extV (Ext.alloc w3 _))
   case src=>exact lsrc_one (us:=[.int .i64 q1,.bool q2,.slice N2 nn2 nc2,str q3,.int .i64 q4,.slice A2 q5 d2]) (tck.sub HTY.out (gp_extV (Ext.alloc w3 _))) (Box.new w3 _ _)
   case len=>rw[HLN.out];have:=HLK.out;simp;omega
   case base=>have:=HSZ.out;simp;omega
   intro v' w5 hO5 hB5 hg5 hv5;obtain⟨w4,hw4⟩:∃x,w3.alloc (.cells #[.int .i64 q1,.bool q2,.slice N2 nn2 nc2,str q3,.int .i64 q4,.slice A2 q5 d2] 27)=x:=⟨_,rfl⟩;have hx4:Ext w3 w4:=hw4▸Ext.alloc w3 _;have hs4:w3.heap.size+1=w4.heap.size:=by rw[←hw4];simp
   rw[hw4] at hO5 hB5 hg5
   first|rw[hs4] at hv5|rw[hw4] at hv5
   have H4:=H3.out.up hx4;have HS5:=hid (show LSt W g hv2 cv2 (v'::xs) s3 w5 from H4.grow (Below.mono hB5 HWW.out) hg5 hv5 (fun b hb=>⟨Nat.le_trans HWW.out (hO5.lt b hb).1,(hO5.lt b hb).2⟩) fun b hb=>⟨(HQ1.out b hb).1,fun v hv2=>(HQ1.out b hb).2 v (by simp at hv2;rcases hv2 with rfl|rfl<;>simp)⟩);have HO5:=hid (show OwnL TC 6 27 w.heap.size (gp (qt g (hv2::cv2::v'::xs)) w5) w5 v' (L++[y]) from hO5.world tck (by
    have:=(Turn.list (la:=[hv2,cv2]) (lb:=xs) H4.low (Below.mono hB5 HWW.out) hg5 hv5).sub [];simpa using this))
   have HQ5:=hid (show ∀b,v'.ownBlock=some b→qt g (hv2::cv2::xs) b from fun b hb=>by
    rcases hv5 with e|e
    ·exact HQ1.out b (by rw[←e];exact hb)
    ·rw[e] at hb;injection hb with hb;have:=H4.drop.low.new (k:=b) (by omega);exact this)
   have HT5:=hid (show Turn W.heap.size g [hv,cv] w [hv2,cv2] w5 from⟨Below.trans (Below.trans HTA.out.1 (Below.mono hx4 (Nat.le_trans HWW.out HSZ.out))) (Below.mono hB5 HWW.out),fun b hb hq=>by
    obtain⟨a1,a2⟩:=HTA.out.2 b hb hq;exact⟨a1,(hg5.block b (by have:=HSZ.out;have:=hx4.size;omega) (fun e=>by have:=(HO3.out.lt b e.symm).1;omega)).trans ((hx4.block b (by have:=HSZ.out;omega)).trans a2)⟩⟩)
   clear hO5 hB5 hg5 hv5 hw4 hx4 H4 hs4;go_wp2_with fail
   go_roundw
   case rel=>
    have e1:M.lfTs (l.take (k+1)) st=(L++[y],s3):=by rw[List.take_add_one,HU.out];show M.lfTs (l.take k++[t]) st=_;rw[M.lfTs_snoc,HL.out,HSK.out,HY.out,HS3.out]
    exact⟨k+1,hv2,cv2,by omega,by simp,by rw[e1];exact⟨HS5.out,HO5.out,HQ5.out,HT5.out⟩⟩
   case measure=>simp[intOf];omega
  ·obtain rfl:k=n:=by omega
   have e1:l.take k=l:=by rw[←HN.out,List.take_length]
   have h1:=HL.out;have h2:=HSK.out;rw[e1] at h1 h2;have HF:=hid (show GivesLs W g hv cv xs (M.lfTs l st).1 (M.lfTs l st).2 w (.returned (.slice IA ln ic)) wr from⟨_,hv1,cv1,rfl,by rw[h2];exact HS.out.drop,by
    rw[h1];exact HO.out.terms (qt_mono fun v hv2=>by simp only[List.mem_cons] at hv2 ⊢;rcases hv2 with rfl|rfl|hv2<;>simp[*]) (by rw[gp_size];exact Nat.le_refl _) fun a u ⟨b,hb,ha⟩ hc=>gp_cell.2 ⟨by rw[ha];exact HXQ.out b hb,hc⟩,HT.out⟩)
   clear e1 h1 h2 HS HO HXQ HT;go_wp2;go_ret;exact HF.out
set_option linter.unusedSimpArgs false
set_option linter.unusedVariables false
open Go.RowKit
set_option maxHeartbeats 16000000 in
set_option maxRecDepth 20000 in
theorem term_l:∀(F:Nat) {t:M.Tm},M.kcnt t<F→M.kcnt t≤100000→M.kis t=true→M.kfew t=true→TermL t
 | 0,_,hF,_,_,_=>absurd hF (Nat.not_lt_zero _)
 | F+1,t,hF,hc,hi,hf=>by
  intro W g hv cv xs st w v h ht hr;obtain⟨op,tg,ls,nm,so,ks⟩:=t;obtain⟨N,nn,nc,A,c,rfl,hn,hks⟩:=ht;replace hn:LNum (gp (qt g (hv::cv::xs)) w) (.slice N nn nc) ls:=hn;replace hks:Tms (gp (qt g (hv::cv::xs)) w) ks (.slice A ks.length c):=hks;show Calls Tryz.prog 62 #[.pointer (some ⟨g,0,none⟩),kv op tg N nn nc nm so A ks.length c] w _;have hcnt:M.kcnt (.mk op tg ls nm so ks)=1+M.kcnts ks:=by rw[M.kcnt]
  rw[hcnt] at hF hc hr;have hkl:=M.kcnts_len ks;obtain⟨hi1,hi2,hi3⟩:=M.kis_one hi;have hf3:M.kfews ks=true:=(M.kfew_parts hf).2.2;obtain⟨ks',hks'⟩:∃l,(M.lfTs ks st).1=l:=⟨_,rfl⟩;obtain⟨sk,hsk⟩:∃s,(M.lfTs ks st).2=s:=⟨_,rfl⟩;have HE:=hid (show M.lfT (.mk op tg ls nm so ks) st=M.lfAct (.mk op tg ls nm so ks') sk from by rw[M.lfT,hks',hsk]);have HLK:=hid (show ks'.length=ks.length from by rw[←hks',M.lfTs_len]);have HFK:=hid (show M.kfews ks'=true from by rw[←hks'];exact M.lfTs_fews (m:=1) (hr.less (by omega)) hf3);have HRK:=hid (show M.Room 1 sk from by rw[←hsk];exact M.lfTs_rooms (hr.less (by omega)));obtain⟨kn,hkn⟩:∃n,ks.length=n:=⟨_,rfl⟩;have HT:=hid (show ∀(W:World) (g:Nat) (hv cv:Value) (xs:List Value) (w:World),LSt W g hv cv xs st w→Tms (gp (qt g (hv::cv::xs)) w) ks (.slice A kn c)→Calls Tryz.prog 94 #[.pointer (some ⟨g,0,none⟩),.slice A kn c] w (GivesLs W g hv cv xs ks' sk w) from fun W g hv cv xs w h1 h2=>by
   have:=terms_l h1 h2 (by omega) (hr.less (by omega)) (fun k u hu=>term_l F (by have:=M.kcnts_at hu;omega) (by have:=M.kcnts_at hu;omega) (M.kiss_at hi3 hu) (M.kfews_at hf3 hu))
   rwa [hks',hsk] at this)
  have HI:=hid (And.intro hi1 hi2);rw[hkn] at hks HLK HI ⊢;have HQ:=hid (And.intro hn hks);have HL:=hid h;rw[HE.out];have HB0:=hid (show Box ((w.alloc (.cells #[.int .i64 op,.bool tg,.slice N nn nc,str nm,.int .i64 so,.slice A kn c] 27)).alloc (.cells zero6 27)) w.heap.size #[.int .i64 op,.bool tg,.slice N nn nc,str nm,.int .i64 so,.slice A kn c] 27 from(Box.new w _ _).alloc _);have HB1:=hid (show Box ((w.alloc (.cells #[.int .i64 op,.bool tg,.slice N nn nc,str nm,.int .i64 so,.slice A kn c] 27)).alloc (.cells zero6 27)) (w.heap.size+1) zero6 27 from Box.at_ (w:=w.alloc (.cells #[.int .i64 op,.bool tg,.slice N nn nc,str nm,.int .i64 so,.slice A kn c] 27)) _ _ (by simp));have E0:=hid (alloc_two w (.cells #[.int .i64 op,.bool tg,.slice N nn nc,str nm,.int .i64 so,.slice A kn c] 27) (.cells zero6 27));clear h hn hks hF hc hi hf hr hcnt hkl hi1 hi2 hi3 hf3 hks' hsk hkn HE;go_enter Tryz.func62,Tryz.ntmps62
  go_upto_region 1 with (fail)
  refine vwp_at (fun W'=>Box W' w.heap.size #[.int .i64 op,.bool tg,.slice N nn nc,str nm,.int .i64 so,.slice A kn c] 27∧Box W' (w.heap.size+1) zero6 27∧Ext w W'∧W'.heap.size=w.heap.size+2) ⟨HB0.out,HB1.out,E0.out,by simp⟩ ?_;clear HB0 HB1 E0;intro W1 ⟨hb0,hb1,he,hsz⟩;obtain⟨g0,hg0⟩:∃g,w.heap.size=g:=⟨_,rfl⟩;have HG:=hid hg0;rw[hg0] at hb0 hb1 hsz ⊢;have HB0:=hid hb0;have HB1:=hid hb1;have E:=hid he;have HSZ:=hid hsz;have HWW:=hid HL.out.ext.size;have HGG:=hid (show W.heap.size≤g∧g<w.heap.size from HL.out.low.1);clear hb0 hb1 he hg0 hsz;obtain⟨xs1,hxs1⟩:∃l,fence g0 W1.heap.size++xs=l:=⟨_,rfl⟩;have HXS:=hid hxs1;have HLF:=hid (show LSt W g hv cv xs1 st W1 from hxs1▸HL.out.fence E.out (B:=g0) (N:=W1.heap.size) (Nat.le_of_eq HG.out) (Nat.le_refl _));have HFS:=hid (show Sub (gp (qt g (hv::cv::xs)) w) (gp (qt g (hv::cv::xs1)) W1) from hxs1▸fence_sub (vs:=[hv,cv]) (xs:=xs) E.out (Nat.le_of_eq HG.out));have HQf:=hid (show ∀k,g0≤k→k<W1.heap.size→qt g [hv,cv] k from fun k h1 h2=>by
   have h3:=HL.out.low.new (k:=k) (by have:=HG.out;omega);exact⟨h3.1,fun v hv2=>h3.2 v (by simp at hv2;rcases hv2 with rfl|rfl<;>simp)⟩)
  have HX1:=hid (show ∀(hv cv:Value) (k:Nat),g0≤k→k<W1.heap.size→¬qt g (hv::cv::xs1) k from fun hv cv k h1 h2 h3=>by
   rw[←hxs1] at h3;exact(qt_fence (vs:=[hv,cv]).1 h3).2 ⟨h1,h2⟩)
  replace HQ:=hid (And.intro (HQ.out.1.sub HFS.out) (HQ.out.2.sub HFS.out));have HTU:=hid (Turn.ext (g:=g) (vs:=[hv,cv]) HWW.out E.out);clear hxs1 HFS;obtain⟨⟨b0,b1,b2,b3,b4,b5⟩,-,-⟩:=boxF6 HB0.out;go_wp2_with fail
  refine(HT.out _ _ _ _ _ _ HLF.out HQ.out.2).mono ?_;rintro e w2 ⟨u,hv1,cv1,rfl,hs,hu,ht⟩;obtain⟨A1,c1,rfl⟩:=hu.shape;rw[HLK.out] at hu ⊢;have hq2:=fun k h1 h2=>ht.2 k h2 (HQf.out k h1 h2);have hgl:g0<W1.heap.size∧g0+1<W1.heap.size:=by have:=HSZ.out;omega
  have HS2:=hid hs;have HN2:=hid (HQ.out.1.sub (ht.sub xs1));have HK2:=hid hu;have HB02:=hid (show Box w2 g0 #[.int .i64 op,.bool tg,.slice N nn nc,str nm,.int .i64 so,.slice A kn c] 27 from(hq2 g0 (Nat.le_refl _) hgl.1).2.trans HB0.out);have HB12:=hid (show Box w2 (g0+1) zero6 27 from(hq2 (g0+1) (Nat.le_succ _) hgl.2).2.trans HB1.out);have HQ1:=hid (show ∀k,g0≤k→k<W1.heap.size→qt g [hv1,cv1] k from fun k h1 h2=>(hq2 k h1 h2).1);have HT2:=hid (HTU.out.trans ht);have HWS:=hid ht.size;clear hs hu ht hq2 hgl b0 b1 b2 b3 b4 b5 HB0 HB1 HT HLF HL HQ HQf HTU E;obtain⟨⟨b0,b1,b2,b3,b4,b5⟩,⟨f0,f1,f2,f3,f4,f5⟩,hz⟩:=boxF6 HB02.out;go_upto_region 2 with (fail)
  -- the kids are put in their place
  refine vwp_at (fun W3=>LSt W g hv1 cv1 xs1 sk W3∧IsTm (gp (qt g (hv1::cv1::xs1)) W3) (.mk op tg ls nm so ks') (kv op tg N nn nc nm so A1 kn c1)∧Box W3 g0 #[.int .i64 op,.bool tg,.slice N nn nc,str nm,.int .i64 so,.slice A1 kn c1] 27∧Box W3 (g0+1) zero6 27∧Turn W.heap.size g [hv,cv] w [hv1,cv1] W3) ?_ ?_
  ·have hgq:=HQ1.out g0 (Nat.le_refl _) (by have:=HSZ.out;omega);have hK:Kept [g0] w2 (w2.setCell ⟨g0,5,none⟩ (.slice A1 kn c1)):=kept_setAt _;have hS:Sub (gp (qt g (hv1::cv1::xs1)) w2) (gp (qt g (hv1::cv1::xs1)) (w2.setCell ⟨g0,5,none⟩ (.slice A1 kn c1))):=gpv_mono hK.1.size fun k hk hq=>⟨hq,hK.2 k hk (by simp;intro e;exact HX1.out hv1 cv1 k (by omega) (by have:=HSZ.out;omega) hq)⟩;have hBl:Below W.heap.size w2 (w2.setCell ⟨g0,5,none⟩ (.slice A1 kn c1)):=hK.below (X:=[g0]) HS2.out.ext.size (by intro x hx;simp at hx;subst hx;have:=HG.out;have:=HWW.out;omega);refine⟨HS2.out.aside hBl fun k hk hq=>hK.2 k hk ?_,⟨N,nn,nc,A1,c1,by rw[show (M.Tm.mk op tg ls nm so ks').kids.length=kn from HLK.out];rfl,HN2.out.sub hS,by rw[show (M.Tm.mk op tg ls nm so ks').kids.length=kn from HLK.out];exact HK2.out.sub hS⟩,?_,?_,?_⟩
   ·simp;intro e0;rw[e0] at hq;rcases hq with e|e|e|e
    ·exact hgq.1 e
    ·exact HX1.out hv1 cv1 g0 (Nat.le_refl _) (by have:=HSZ.out;omega) e
    ·exact hgq.2 _ (by simp) e
    ·exact hgq.2 _ (by simp) e
   ·exact HB02.out.setAt 5 _
   ·exact HB12.out.kept hK (by simp)
   ·exact⟨Below.trans HT2.out.1 hBl,fun k hk hq=>by
     obtain⟨a1,a2⟩:=HT2.out.2 k hk hq;exact⟨a1,(hK.2 k (Nat.lt_of_lt_of_le hk HT2.out.size) (by simp;have:=HG.out;omega)).trans a2⟩⟩
  clear b0 b1 b2 b3 b4 b5 f0 f1 f2 f3 f4 f5 hz;intro w3 ⟨hs,hu,hb0,hb1,ht⟩;have HS3:=hid hs;have HU3:=hid hu;have HB03:=hid hb0;have HB13:=hid hb1;have HT3:=hid ht;clear hs hu hb0 hb1 ht HS2 HN2 HK2 HB02 HB12 HT2;have HR0:=hid (show (-9000000000000000000≤sk.next∧sk.next≤9000000000000000000)∧(sk.held.length≤800000∧sk.cons.length≤800000) from by
   obtain⟨⟨a,b⟩,c,d⟩:=HRK.out;exact⟨⟨a,by omega⟩,by omega,by omega⟩)
  -- the end,from any of three ways
  have HEND:=hid (show ∀(hv2 cv2:Value) (st':M.LS) (w4 w5:World) (t':M.Tm) (u:Value),Turn W.heap.size g [hv1,cv1] w3 [hv2,cv2] w4→LSt W g hv2 cv2 xs1 st' w4→IsTm (gp (qt g (hv2::cv2::xs1)) w4) t' u→Kept [g0+1] w4 w5→GivesL W g hv cv xs t' st' w (.returned u) w5 from fun hv2 cv2 st' w4 w5 t' u h1 h2 h3 h4=>by
   rw[←HXS.out] at h2 h3;exact fence_end (HT3.out.trans h1) h2 h3 h4 (by intro k hk;simp at hk;have:=HSZ.out;omega) (Nat.le_of_eq HG.out) HWW.out fun k h5 h6=>(h1.2 k (by have:=HB13.out.lt;have:=HSZ.out;omega) (HQ1.out k h5 h6)).1)
  have HB1q:=hid (show ∀(hv2 cv2:Value) (w4:World),Turn W.heap.size g [hv1,cv1] w3 [hv2,cv2] w4→Box w4 (g0+1) zero6 27 from fun hv2 cv2 w4 h1=>(h1.box HB13.out (HQ1.out _ (Nat.le_succ _) (by have:=HSZ.out;omega))).1);obtain⟨⟨b0,b1,b2,b3,b4,b5⟩,-,-⟩:=boxF6 HB03.out
  by_cases h18:op=18
  ·subst h18;have HF:=hid (show M.lfAct (.mk 18 tg ls nm so ks') sk=(M.frT sk.next 2,M.sizeL (.mk 18 tg ls nm so ks') sk) from by unfold M.lfAct;exact if_pos rfl);rw[HF.out];go_wp2_with fail
   refine(size_l HS3.out HU3.out (by rw[show (M.Tm.mk 18 tg ls nm so ks').kids.length=kn from HLK.out];first|exact HI.out.1 rfl|exact HI.out.1 trivial) HFK.out HR0.out.1 HR0.out.2).mono ?_;rintro e w4 ⟨u,hv2,cv2,rfl,hs4,hu4,ht4⟩;obtain⟨y1,y2,yN,yn,ym,y3,y4,yA,y5,yd,rfl⟩:=hu4.kvs;have HD:=hid (fun (w5:World)=>HEND.out _ _ _ _ w5 _ _ ht4 hs4 hu4);have HB4:=hid (HB1q.out _ _ _ ht4);clear hs4 hu4 ht4 b0 b1 b2 b3 b4 b5;obtain⟨⟨r0,r1,r2,r3,r4,r5⟩,⟨q0,q1,q2,q3,q4,q5⟩,hz⟩:=boxF6 HB4.out;go_wp2_with fail
   refine bodyPost_ret (v:=kv y1 y2 yN yn ym y3 y4 yA y5 yd) (by simp[results,Tryz.results62,go_sem,r0,r1,r2,r3,r4,r5,hz]) rfl ?_;exact HD.out (put6 w4 (g0+1) (.int .i64 y1) (.bool y2) (.slice yN yn ym) (str y3) (.int .i64 y4) (.slice yA y5 yd)) put6_kept
  ·have r18:(op==18)=false:=by simpa using h18
   go_wp2_with fail
   refine(choice_n w3).mono ?_;rintro e w4 ⟨rfl,hx⟩;have HS4:=hid (HS3.out.up hx);have HU4:=hid (HU3.out.sub (gp_extV hx):IsTm (gp (qt g (hv1::cv1::xs1)) w4) _ _);have HT4:=hid (Turn.ext (g:=g) (vs:=[hv1,cv1]) HS3.out.ext.size hx);have HB04:=hid (HB03.out.up hx);clear hx b0 b1 b2 b3 b4 b5;obtain⟨⟨b0,b1,b2,b3,b4,b5⟩,-,-⟩:=boxF6 HB04.out
   by_cases h12:op=12∧so=2
   ·obtain⟨rfl,rfl⟩:=h12;have HF:=hid (show M.lfAct (.mk 12 tg ls nm 2 ks') sk=(M.frT sk.next 2,M.chosenL (.mk 12 tg ls nm 2 ks') sk) from by unfold M.lfAct;exact(if_neg (show ¬(12:Int)=18 by decide)).trans (if_pos ⟨rfl,rfl⟩));rw[HF.out];rw[show (decide ((12:Int)=12)&&decide ((2:Int)=2))=true from rfl];go_wp2_with fail
    refine(chosen_l HS4.out HU4.out (by rw[show (M.Tm.mk 12 tg ls nm 2 ks').kids.length=kn from HLK.out];first|exact HI.out.2 rfl|exact HI.out.2 trivial) HFK.out HR0.out.1 HR0.out.2).mono ?_;rintro e w5 ⟨u,hv2,cv2,rfl,hs4,hu4,ht4⟩;obtain⟨y1,y2,yN,yn,ym,y3,y4,yA,y5,yd,rfl⟩:=hu4.kvs;have HD:=hid (fun (w6:World)=>HEND.out _ _ _ _ w6 _ _ (HT4.out.trans ht4) hs4 hu4);have HB4:=hid (HB1q.out _ _ _ (HT4.out.trans ht4));clear hs4 hu4 ht4 b0 b1 b2 b3 b4 b5;obtain⟨⟨r0,r1,r2,r3,r4,r5⟩,⟨q0,q1,q2,q3,q4,q5⟩,hz⟩:=boxF6 HB4.out;go_wp2_with fail
    refine bodyPost_ret (v:=kv y1 y2 yN yn ym y3 y4 yA y5 yd) (by simp[results,Tryz.results62,go_sem,r0,r1,r2,r3,r4,r5,hz]) rfl ?_;exact HD.out (put6 w5 (g0+1) (.int .i64 y1) (.bool y2) (.slice yN yn ym) (str y3) (.int .i64 y4) (.slice yA y5 yd)) put6_kept
   ·have HF:=hid (show M.lfAct (.mk op tg ls nm so ks') sk=(.mk op tg ls nm so ks',sk) from by unfold M.lfAct;exact(if_neg h18).trans (if_neg h12));rw[HF.out];have HD:=hid (show (decide (op=12)&&decide (so=2))=false from by
     rw[Bool.and_eq_false_iff,decide_eq_false_iff_not,decide_eq_false_iff_not];rcases Classical.em (op=12) with h|h
     ·exact .inr fun h2=>h12 ⟨h,h2⟩
     ·exact .inl h)
    rw[HD.out];have HB4:=hid (HB1q.out _ _ _ HT4.out);obtain⟨⟨r0,r1,r2,r3,r4,r5⟩,⟨q0,q1,q2,q3,q4,q5⟩,hz⟩:=boxF6 HB4.out;clear h12;go_wp2_with fail
    refine bodyPost_ret (v:=kv op tg N nn nc nm so A1 kn c1) (by simp[results,Tryz.results62,go_sem,r0,r1,r2,r3,r4,r5,hz]) rfl ?_;rw[HF.out];exact HEND.out _ _ _ _ (put6 w4 (g0+1) (.int .i64 op) (.bool tg) (.slice N nn nc) (str nm) (.int .i64 so) (.slice A1 kn c1)) _ _ HT4.out HS4.out HU4.out put6_kept
end Go.Proofs.YtoenjbkmiphhoaaGreatDoor.Q
