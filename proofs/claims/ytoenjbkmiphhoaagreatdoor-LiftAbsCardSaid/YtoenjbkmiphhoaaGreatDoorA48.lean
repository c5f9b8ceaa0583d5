import Derived.Test.YtoenjbkmiphhoaaGreatDoorA47
import Derived.Test.YtoenjbkmiphhoaaGreatDoorA25
import Derived.Test.YtoenjbkmiphhoaaGreatDoorA45
import Derived.Test.YtoenjbkmiphhoaaGreatDoorA44
set_option linter.unusedSimpArgs false
set_option linter.unusedVariables false
namespace Go.Proofs.YtoenjbkmiphhoaaGreatDoor.Q
open Go.RowKit
def M.xTrue (x:List M.Fn)(l:List M.Tm): Bool:=l.all fun t=>decide ((M.mEval x t).1=1)&&decide (M.cz (M.mEval x t)≠0)
theorem M.true_one (x:List M.Fn)(t:M.Tm): (decide ((M.mEval x t).1=1)&&decide (M.cz (M.mEval x t)≠0))=M.vSame (M.mEval x t) (M.vTruth true):=by
 have h1:(M.vTruth true).1=1/\M.cz (M.vTruth true)=1:=by decide +kernel
 unfold M.vSame;rw[h1.1,h1.2]
 by_cases hk:M.kIs t=true
 ·have h2:=M.eval_is (m:=x) hk
  by_cases hs:(M.mEval x t).1=1
  ·rw[M.vIs_sort h2] at hs;rw[hs] at h2;unfold M.vIs at h2;simp only[Bool.and_eq_true,Bool.or_eq_true,decide_eq_true_iff] at h2;congr 1;rw[decide_eq_decide];rcases h2.2.2 with h|h|h<;>omega
  ·rw[decide_eq_false hs];rfl
 ·have e:M.mEval x t=(1,false,[]):=by unfold M.mEval;rw[if_neg hk]
  rw[e];rfl
theorem M.xTrue_all {x:List M.Fn}{l:List M.Tm}(h:∀d∈l,M.vSame (M.mEval x d) (M.vTruth true)=true): M.xTrue x l=true:=by
 unfold M.xTrue;rw[List.all_eq_true];intro d hd;rw[M.true_one];exact h d hd
set_option maxHeartbeats 8000000 in
theorem xTrue_g {P:Int->Nat->Bool}(C:XTermC P){U:Nat}(hU:40<=U)(hU2:U<=70000){m:List M.Fn}{l:List M.Tm}{mv v:Value}{w:World}(hP:M.allOps2 P l=true)(hm:FnList w m mv)(hnm:∀f∈m,f.sg.name.length<=1000000000000)(hwd:∀f∈m,M.fnWd U f)(hl:Tms w l v)(hf:M.kfews l=true): Calls Tryz.prog 26 #[v,mv] w (GivesB w (M.xTrue m l)):=by
 have HEV:=hid (show ∀(k:Nat) (t:M.Tm),l[k]?=some t->∀w' u,Ext w w'->IsTm w' t u->Calls Tryz.prog 25 #[u,mv] w' (GivesVW w' (M.mEval m t) (U+50*M.kcnt t)) from fun k t ht w' u e hu=>xEval_g C hU hU2 (M.allOps2_at hP ht) (hm.up e) hnm hwd hu (M.kfews_at hf ht));obtain⟨A,c,rfl⟩:=hl.shape;obtain⟨-,hl2,hl3⟩:=hl.le;obtain⟨n,hn⟩:∃n,l.length=n:=⟨_,rfl⟩;rw[hn] at hl hl2 |-;obtain⟨MA,mc,rfl⟩:=hm.shape;obtain⟨mn,hmn⟩:∃n,m.length=n:=⟨_,rfl⟩;rw[hmn] at HEV |-;have HK:=hid hl;have HN:=hid hn;obtain⟨R,hR0⟩:∃R,M.xTrue m l=R:=⟨_,rfl⟩;rw[hR0];have HRR:=hid hR0;clear hP hl hn hm hnm hwd hf hmn hR0;go_enter Tryz.func26,Tryz.ntmps26
 go_wp2_with fail
 go_loopw[5,6] (fun i _ wr=>∃k:Nat,k<=n/\i=.int .i64 k/\Hid (M.xTrue m (l.take k)=true/\Ext w wr)) (fun i _ _=>n-(intOf i).toNat)
 case atStart=>exact⟨0,Nat.zero_le _,rfl,rfl,Ext.refl _⟩
 case round=>
  obtain⟨k,hk,rfl,hR⟩:=hrel;have HS:=hid hR.out.1;have E:=hid hR.out.2;clear hR;rcases Nat.lt_or_ge k n with hlt|hge
  case inr=>
   obtain rfl:k=n:=by omega
   have HF:=hid (show R=true by rw[<-HRR.out];have h:=HS.out;rw[<-HN.out,List.take_length] at h;exact h);go_wp2_with fail
   go_ret;exact⟨by rw[HF.out];rfl,E.out⟩
  have hlt':(k:Int)<(n:Int):=by omega
  obtain⟨ad,t,N',nn',nc',B,d,rfl,ht,⟨c0,c1,c2,c3,c4,c5⟩,hit⟩:=(HK.out.up E.out).get hlt;have HTK:=hid ht;obtain⟨o1,ho1⟩:∃o,t.op=o:=⟨_,rfl⟩;obtain⟨o2,ho2⟩:∃o,t.g=o:=⟨_,rfl⟩;obtain⟨o3,ho3⟩:∃o,t.name=o:=⟨_,rfl⟩;obtain⟨o4,ho4⟩:∃o,t.sort=o:=⟨_,rfl⟩;obtain⟨o5,ho5⟩:∃o,t.kids.length=o:=⟨_,rfl⟩;rw[ho1] at c0 hit;rw[ho2] at c1 hit;rw[ho3] at c3 hit;rw[ho4] at c4 hit;rw[ho5] at c5 hit;have HC:=hid (HEV.out k t ht wr _ E.out hit);obtain⟨X,hX⟩:∃X,M.mEval m t=X:=⟨_,rfl⟩;rw[hX] at HC;have HNX:=hid (show M.xTrue m (l.take (k+1))=(decide (X.1=1)&&decide (M.cz X≠0)) from by
   have h:=HS.out;unfold M.xTrue at h |-;rw[List.take_add_one,HTK.out,List.all_append,h,Option.toList_some];show (true&&((decide ((M.mEval m t).1=1)&&decide (M.cz (M.mEval m t)≠0))&&true))=_;rw[hX,Bool.true_and,Bool.and_true])
  have HNO:=hid (show (decide (X.1=1)&&decide (M.cz X≠0))=false->R=false from fun h0=>by
   rw[<-HRR.out];unfold M.xTrue;exact List.all_eq_false.2 ⟨t,List.mem_of_getElem? HTK.out,by rw[hX,h0];decide⟩)
  clear ht hit ho1 ho2 ho3 ho4 ho5 hX;go_wp2_with fail
  refine HC.out.mono ?_;rintro e w3 ⟨v3,rfl,hv3,hx,-⟩;obtain⟨xs,xg,xl⟩:=X;have HV:=hid hv3;obtain⟨N3,n3,c3',rfl,-⟩:=hv3;have E3:=hid (E.out.trans hx);clear hx c0 c1 c2 c3 c4 c5 HC;go_upto_region 5 with (fail)
  refine vwp_at (fun W'=>Box W' w3.heap.size #[.int .i64 xs,.bool xg,.slice N3 n3 c3'] 45/\Ext w3 W') ⟨Box.new w3 _ _,Ext.alloc _ _⟩ ?_;intro W4 ⟨hb,he⟩;obtain⟨g4,hg4⟩:∃g,w3.heap.size=g:=⟨_,rfl⟩;rw[hg4] at hb |-;have HB:=hid hb;replace HV:=hid (HV.out.up he);replace E3:=hid (E3.out.trans he);clear hb he hg4;obtain⟨q,hq⟩:∃q,decide (M.cz (xs,xg,xl)≠0)=q:=⟨_,rfl⟩;have HY:=hid (show Calls Tryz.prog 51 #[vv xs xg N3 n3 c3'] W4 (GivesB W4 q) from hq▸xYes_n HV.out);rw[hq] at HNX HNO;obtain⟨⟨b0,b1,b2⟩,-,-⟩:=box3v HB.out;clear hq HV
  by_cases h1:xs=1
  ·subst h1;go_wp2_with fail
   refine HY.out.mono ?_;rintro e w5 ⟨rfl,hx⟩;have E5:=hid (E3.out.trans hx);clear hx HY b0 b1 b2;cases q
   ·have HF:=hid (HNO.out rfl);go_wp2_with fail
    go_ret;exact⟨by rw[HF.out];rfl,E5.out⟩
   ·go_wp2_with fail
    go_roundw
    case rel=>exact⟨k+1,by omega,by simp,by rw[HNX.out];rfl,E5.out⟩
    case measure=>simp[intOf];omega
  ·have HF:=hid (HNO.out (by show (decide (xs=1)&&q)=false;rw[decide_eq_false h1];rfl));have hb1:(xs != 1)=true:=by simpa using h1
   clear h1;go_wp2_with fail
   go_ret;exact⟨by rw[HF.out];rfl,E3.out⟩
open Go.RowKit
namespace M
def wth (f:Fn): List Fn->Bool->List Fn
 | [],d=>if d=true then[] else[f]
 | g::r,d=>(if d=false/\Go.Op.bytesLess g.sg.name f.sg.name=false then[f] else[])++((if g.sg.name≠f.sg.name then[g] else[])++wth f r (d||!Go.Op.bytesLess g.sg.name f.sg.name))
theorem wth_true (f:Fn): ∀l:List Fn,wth f l true=l.filter fun g=>decide (g.sg.name≠f.sg.name)
 | []=>by rw[wth];rfl
 | g::r=>by
  rw[wth,if_neg (by rintro⟨h,-⟩;cases h),Bool.true_or,wth_true f r,List.filter_cons]
  by_cases h:g.sg.name=f.sg.name
  ·rw[if_neg (by simpa using h),if_neg (by simpa using h)];rfl
  ·rw[if_pos h,if_pos (by simpa using h)];rfl
theorem asc_cons {g:Fn}{r:List Fn}(h:kAsc ((g::r).map Fn.sg)): kAsc (r.map Fn.sg)/\∀x∈r,Go.Op.bytesLess g.sg.name x.sg.name=true:=by
 refine⟨fun i j x y hij hx hy=>h (i+1) (j+1) x y (by omega) (by simpa using hx) (by simpa using hy),fun x hx=>?_⟩;obtain⟨k,hk⟩:=List.getElem?_of_mem hx;exact h 0 (k+1) g.sg x.sg (by omega) (by simp) (by simp[hk])
theorem wth_put (f:Fn): ∀l:List Fn,kAsc (l.map Fn.sg)->wth f l false=mPut l f
 | [],_=>by rw[wth];rfl
 | g::r,h=>by
  obtain⟨h1,h2⟩:=asc_cons h;rw[wth,Bool.false_or];rcases hb:Go.Op.bytesLess g.sg.name f.sg.name with _|_
  ·rw[if_pos ⟨rfl,rfl⟩,Bool.not_false,wth_true];unfold mPut;rw[List.takeWhile_cons,hb,List.dropWhile_cons,hb];simp only[Bool.false_eq_true,if_false,List.nil_append,List.singleton_append];congr 1;rw[List.dropWhile_cons]
   by_cases he:g.sg.name=f.sg.name
   ·rw[if_neg (by simpa using he),if_pos (by simpa using he),List.nil_append];have h3:∀x∈r,x.sg.name≠f.sg.name:=fun x hx e=>by
     have:=h2 x hx;rw[he,e,less_irrefl] at this;cases this
    rw[List.filter_eq_self.2 fun x hx=>by simpa using h3 x hx];cases r with
    | nil=>rfl
    | cons x q=>rw[List.dropWhile_cons,if_neg (by simpa using h3 x (by simp))]
   ·rw[if_pos he,if_neg (by simpa using he),List.singleton_append];congr 1;refine List.filter_eq_self.2 fun x hx=>?_;have h4:Go.Op.bytesLess f.sg.name g.sg.name=true:=less_tri hb he;have h5:=less_trans h4 (h2 x hx);simp only[ne_eq,decide_not,Bool.not_eq_eq_eq_not,Bool.not_true,decide_eq_false_iff_not];intro e;rw[e,less_irrefl] at h5;cases h5
  ·have he:g.sg.name≠f.sg.name:=fun e=>by rw[e,less_irrefl] at hb;cases hb
   rw[if_neg (by rintro⟨-,h⟩;cases h),if_pos he,Bool.not_true,wth_put f r h1];unfold mPut;rw[List.takeWhile_cons,hb,List.dropWhile_cons,hb];rfl
theorem wth_step {f g:Fn}{l:List Fn}{k:Nat}(h:l[k]?=some g)(d:Bool): wth f (l.drop k) d=(if d=false/\Go.Op.bytesLess g.sg.name f.sg.name=false then[f] else[])++((if g.sg.name≠f.sg.name then[g] else[])++wth f (l.drop (k+1)) (d||!Go.Op.bytesLess g.sg.name f.sg.name)):=by
 have hk:=(List.getElem?_eq_some_iff.1 h).1;rw[List.drop_eq_getElem_cons hk,(List.getElem?_eq_some_iff.1 h).2,wth]
end M
open Go.RowKit
theorem M.leq_less (a b:List UInt8): (Go.Op.bytesLess a b||a==b)=!Go.Op.bytesLess b a:=by
 rcases h:Go.Op.bytesLess b a with _|_
 ·by_cases e:b=a
  ·subst e;simp
  ·rw[M.less_tri h e];rfl
 ·have e:a≠b:=fun e=>by rw[e,M.less_irrefl] at h;cases h
  rw[M.less_no h];simpa using e
theorem OwnL.funsV {B:Nat}{V w:World}{v:Value}{l:List M.Fn}(h:OwnL FC 7 65 B V w v l)(e:Ext V w): FnList w l v:=OwnL.funs h e.sub (Nat.le_refl _) fun _ _ _ h=>h
set_option maxHeartbeats 16000000 in
set_option maxRecDepth 20000 in
theorem xWith_n {l:List M.Fn}{f:M.Fn}{v fw:Value}{w:World}(h:FnList w l v)(hf:IsFn w f fw)(hl:∀g∈l,g.sg.name.length<=1000000000000)(hfl:f.sg.name.length<=1000000000000)(hlen:l.length<=100000):
 Calls Tryz.prog 52 #[v,fw] w (fun e w'=>∃u,e=.returned u/\FnList w' (M.mPut (M.mRead l) f) u/\Ext w w'):=by
 have HM:=hid (fun (w':World) (e:Ext w w')=>xMay_n (h.up e) hl);have HMF:=hid (And.intro (M.mRead_asc l) (Nat.le_trans (M.mRead_len l) hlen));have HML:=hid (show ∀g∈M.mRead l,g.sg.name.length<=1000000000000 from fun g hg=>hl g (M.mRead_mem hg));have HPT:=hid (show M.wth f (M.mRead l) false=M.mPut (M.mRead l) f from M.wth_put f _ (M.mRead_asc l));obtain⟨m,hm⟩:∃m,M.mRead l=m:=⟨_,rfl⟩;rw[hm] at HM HMF HPT HML |-;obtain⟨LA,lc,rfl⟩:=h.shape;obtain⟨ll,hll⟩:∃n,l.length=n:=⟨_,rfl⟩;rw[hll] at HM |-;obtain⟨A,n0,c,B,md,d,N,nn,nc,rfl,hi,hrw,hn⟩:=hf;have HFC:=hid (show FC w f [str f.sg.name,.slice A n0 c,.int .i64 f.sg.ret,.slice B md d,.int .i64 f.els.1,.bool f.els.2.1,.slice N nn nc] from⟨_,_,_,_,_,_,_,_,_,rfl,hi,hrw,hn⟩);obtain⟨nm,hnm⟩:∃x,f.sg.name=x:=⟨_,rfl⟩;obtain⟨rt,hrt⟩:∃x,f.sg.ret=x:=⟨_,rfl⟩;obtain⟨es,hes⟩:∃x,f.els.1=x:=⟨_,rfl⟩;obtain⟨eg,heg⟩:∃x,f.els.2.1=x:=⟨_,rfl⟩;rw[hnm,hrt,hes,heg] at HFC |-;rw[hnm] at hfl;have HNM:=hid hnm;have HFL:=hid hfl;clear h hi hrw hn hl hlen hm hll hnm hrt hes heg hfl;have HB0:=hid (Box.new w #[str nm,.slice A n0 c,.int .i64 rt,.slice B md d,.int .i64 es,.bool eg,.slice N nn nc] 65);have E0:=hid (Ext.alloc w (.cells #[str nm,.slice A n0 c,.int .i64 rt,.slice B md d,.int .i64 es,.bool eg,.slice N nn nc] 65));go_enter Tryz.func52,Tryz.ntmps52
 go_upto_region 1 with (fail)
 refine vwp_at (fun W'=>Box W' w.heap.size #[str nm,.slice A n0 c,.int .i64 rt,.slice B md d,.int .i64 es,.bool eg,.slice N nn nc] 65/\Ext w W') ⟨HB0.out,E0.out⟩ ?_;clear HB0 E0;intro W1 ⟨hb0,he⟩;obtain⟨g0,hg0⟩:∃g,w.heap.size=g:=⟨_,rfl⟩;rw[hg0] at hb0 |-;have HB0:=hid hb0;have E1:=hid he;clear hb0 he hg0;go_wp2_with fail
 refine(HM.out _ E1.out).mono ?_;rintro e w2 ⟨u,rfl,hu,hx⟩;obtain⟨MA,mc,rfl⟩:=hu.shape;obtain⟨n,hn⟩:∃n,m.length=n:=⟨_,rfl⟩;rw[hn] at hu |-;have HN:=hid hn;have HK:=hid (hu.up hx);have E2:=hid (E1.out.trans hx);have HNB:=hid (show n<=100000 from by rw[<-hn];exact HMF.out.2);replace HB0:=hid (HB0.out.up hx);have HWF:=hid (show FC w2 f [str nm,.slice A n0 c,.int .i64 rt,.slice B md d,.int .i64 es,.bool eg,.slice N nn nc] from fck.sub HFC.out E2.out.sub);clear hu hx hn HM HFC;go_wp2_with fail
 have hnb:=HNB.out;go_loopw[6,7,8] (fun x dv i wr=>∃(k:Nat) (dd:Bool) (L:List M.Fn),k<=n/\i=.int .i64 k/\dv=.bool dd/\Hid (OwnL FC 7 65 w2.heap.size w2 wr x L/\Ext w2 wr/\L++M.wth f (m.drop k) dd=M.wth f m false/\L.length<=2*k)) (fun _ _ i _=>n-(intOf i).toNat)
 case atStart=>exact⟨0,false,[],Nat.zero_le _,rfl,rfl,OwnL.nil _ _ _ _,Ext.refl _,rfl,Nat.zero_le _⟩
 case round=>
  obtain⟨k,dd,L,hk,rfl,rfl,hR⟩:=hrel;have HO:=hid hR.out.1;have E:=hid hR.out.2.1;have HEQ:=hid hR.out.2.2.1;have HLL:=hid hR.out.2.2.2;clear hR;obtain⟨IA,ic,rfl,-,-⟩:=HO.out.shape;obtain⟨ln,hln⟩:∃n,L.length=n:=⟨_,rfl⟩;rw[hln] at HO HLL |-;have HLN:=hid hln;clear hln;rcases Nat.lt_or_ge k n with hlt|hge
  ·have hlt':(k:Int)<(n:Int):=by omega
   obtain⟨q,hq⟩:∃q,m[k]?=some q:=⟨_,List.getElem?_eq_getElem (by rw[HN.out];exact hlt)⟩;obtain⟨ad,A1,n1,c1,B1,m1,d1,N1,nn1,nc1,rfl,⟨⟨c0,c1',c2⟩,c3,c4,c5,c6⟩,hi,hr,hn⟩:=HK.out.get hq;have HQ:=hid hq;obtain⟨qn,hqn⟩:∃x,q.sg.name=x:=⟨_,rfl⟩;obtain⟨qr,hqr⟩:∃x,q.sg.ret=x:=⟨_,rfl⟩;obtain⟨qs,hqs⟩:∃x,q.els.1=x:=⟨_,rfl⟩;obtain⟨qg,hqg⟩:∃x,q.els.2.1=x:=⟨_,rfl⟩;have HGF:=hid (show FC w2 q [str q.sg.name,.slice A1 n1 c1,.int .i64 q.sg.ret,.slice B1 m1 d1,.int .i64 q.els.1,.bool q.els.2.1,.slice N1 nn1 nc1] from⟨_,_,_,_,_,_,_,_,_,rfl,hi,hr,hn⟩);rw[hqn] at c0 HGF;rw[hqr] at c2 HGF;rw[hqs] at c4 HGF;rw[hqg] at c5 HGF;have HQN:=hid hqn;have HCB:=hid (show w2.cell? (ad.add (k*7))=some (str qn)/\w2.cell? ⟨(ad.add (k*7)).block,(ad.add (k*7)).off+1,none⟩=some (.slice A1 n1 c1)/\w2.cell? ⟨(ad.add (k*7)).block,(ad.add (k*7)).off+2,none⟩=some (.int .i64 qr)/\w2.cell? ⟨(ad.add (k*7)).block,(ad.add (k*7)).off+3,none⟩=some (.slice B1 m1 d1)/\w2.cell? ⟨(ad.add (k*7)).block,(ad.add (k*7)).off+4,none⟩=some (.int .i64 qs)/\w2.cell? ⟨(ad.add (k*7)).block,(ad.add (k*7)).off+5,none⟩=some (.bool qg)/\w2.cell? ⟨(ad.add (k*7)).block,(ad.add (k*7)).off+6,none⟩=some (.slice N1 nn1 nc1) from⟨c0,c1',c2,c3,c4,c5,c6⟩);have HC:=hid (show wr.cell? (ad.add (k*7))=some (str qn)/\wr.cell? ⟨(ad.add (k*7)).block,(ad.add (k*7)).off+1,none⟩=some (.slice A1 n1 c1)/\wr.cell? ⟨(ad.add (k*7)).block,(ad.add (k*7)).off+2,none⟩=some (.int .i64 qr)/\wr.cell? ⟨(ad.add (k*7)).block,(ad.add (k*7)).off+3,none⟩=some (.slice B1 m1 d1)/\wr.cell? ⟨(ad.add (k*7)).block,(ad.add (k*7)).off+4,none⟩=some (.int .i64 qs)/\wr.cell? ⟨(ad.add (k*7)).block,(ad.add (k*7)).off+5,none⟩=some (.bool qg)/\wr.cell? ⟨(ad.add (k*7)).block,(ad.add (k*7)).off+6,none⟩=some (.slice N1 nn1 nc1) from⟨E.out.cell c0,E.out.cell c1',E.out.cell c2,E.out.cell c3,E.out.cell c4,E.out.cell c5,E.out.cell c6⟩);obtain⟨zl,hzl⟩:∃z,Go.Op.bytesLess qn nm=z:=⟨_,rfl⟩;have HZL:=hid hzl;have HB:=hid (HB0.out.up E.out);clear hqn hqr hqs hqg c0 c1' c2 c3 c4 c5 c6 hi hr hn hzl hq;obtain⟨ze,hze⟩:∃z,(qn==nm)=z:=⟨_,rfl⟩;have HZE:=hid hze;clear hze;have HST:=hid (M.wth_step HQ.out dd (f:=f));rw[HQN.out,HNM.out,HZL.out] at HST;go_upto_region 7 with (fail)
   cases dd
   case false=>
    refine wp_region_D [(0,0),(1,0),(2,0),(3,0),(4,0),(5,0),(6,0),(7,0),(8,0),(9,0),(10,0),(11,0),(12,0),(13,0)] fun wd hb=>?_;refine WE.p 17 (.bool false) ?_;simp only[pX];refine WE.p 18 (.bool true) ?_;simp only[pX];refine WE.p 19 (.bool true) ?_;simp only[pX];refine WE.p 20 (.pointer (some ⟨g0,0,none⟩)) ?_;simp only[pX];refine WE.p 21 (.pointer (some ⟨g0,0,none⟩)) ?_;simp only[pX];refine WE.q 22 (str nm) rfl (fun w' hk=>by have ce:=(HB.out.up (hb.trans hk)).k 0;go_simp) ?_;simp only[pX];refine WE.p 23 (.slice (some ad) n mc) ?_;simp only[pX];refine WE.p 24 (.int .i64 (k:Int)) ?_;simp only[pX];refine WE.p 25 (.pointer (some (ad.add (k*7)))) ?_;simp only[pX];refine WE.p 26 (.pointer (some (ad.add (k*7)))) ?_;simp only[pX];refine WE.p 27 (.pointer (some (ad.add (k*7)))) ?_;simp only[pX];refine WE.q 28 (str qn) rfl (fun w' hk=>by have ce:=(hb.trans hk).cell HC.out.1;go_simp) ?_;simp only[pX];refine WE.p 29 (.bool (!zl)) ?_ (hy:=fun w' hk=>by have hz:=HZL.out;go_simp;rw[M.leq_less,hz]);simp only[pX];refine WE.p 30 (.bool (!zl)) ?_ (hy:=fun w' hk=>by go_simp);simp only[pX];refine WE.done ?_;replace E:=hid (E.out.trans hb);replace HB:=hid (HB.out.up hb);replace HO:=hid (HO.out.up hb);have HC2:=hid (show wd.cell? (ad.add (k*7))=some (str qn)/\wd.cell? ⟨(ad.add (k*7)).block,(ad.add (k*7)).off+1,none⟩=some (.slice A1 n1 c1)/\wd.cell? ⟨(ad.add (k*7)).block,(ad.add (k*7)).off+2,none⟩=some (.int .i64 qr)/\wd.cell? ⟨(ad.add (k*7)).block,(ad.add (k*7)).off+3,none⟩=some (.slice B1 m1 d1)/\wd.cell? ⟨(ad.add (k*7)).block,(ad.add (k*7)).off+4,none⟩=some (.int .i64 qs)/\wd.cell? ⟨(ad.add (k*7)).block,(ad.add (k*7)).off+5,none⟩=some (.bool qg)/\wd.cell? ⟨(ad.add (k*7)).block,(ad.add (k*7)).off+6,none⟩=some (.slice N1 nn1 nc1) from⟨hb.cell HC.out.1,hb.cell HC.out.2.1,hb.cell HC.out.2.2.1,hb.cell HC.out.2.2.2.1,hb.cell HC.out.2.2.2.2.1,hb.cell HC.out.2.2.2.2.2.1,hb.cell HC.out.2.2.2.2.2.2⟩);clear hb;cases zl
    case true=>
     go_upto_region 10 with (fail)
     refine wp_region_D [(0,0),(1,0),(2,0),(3,0),(4,0),(5,0),(6,0),(7,0),(8,0),(9,0)] fun wy hb=>?_;refine WE.p 35 (.slice (some ad) n mc) ?_;simp only[pX];refine WE.p 36 (.int .i64 (k:Int)) ?_;simp only[pX];refine WE.p 37 (.pointer (some (ad.add (k*7)))) ?_;simp only[pX];refine WE.p 38 (.pointer (some (ad.add (k*7)))) ?_;simp only[pX];refine WE.p 39 (.pointer (some (ad.add (k*7)))) ?_;simp only[pX];refine WE.q 40 (str qn) rfl (fun w' hk=>by have ce:=(E.out.trans (hb.trans hk)).cell HCB.out.1;go_simp) ?_;simp only[pX];refine WE.p 41 (.pointer (some ⟨g0,0,none⟩)) ?_;simp only[pX];refine WE.p 42 (.pointer (some ⟨g0,0,none⟩)) ?_;simp only[pX];refine WE.q 43 (str nm) rfl (fun w' hk=>by have ce:=(HB0.out.up (E.out.trans (hb.trans hk))).k 0;go_simp) ?_;simp only[pX];refine WE.p 44 (.bool (!ze)) ?_ (hy:=fun w' hk=>by have hz:=HZE.out;go_simp;try simp[bne,hz]);simp only[pX];refine WE.done ?_;have E10:=hid (E.out.trans hb);have HO10:=hid (HO.out.up hb);clear hb;cases ze
     case false=>
      have c0:=E10.out.cell HCB.out.1;have cc1:=E10.out.cell HCB.out.2.1;have cc2:=E10.out.cell HCB.out.2.2.1;have cc3:=E10.out.cell HCB.out.2.2.2.1;have cc4:=E10.out.cell HCB.out.2.2.2.2.1;have cc5:=E10.out.cell HCB.out.2.2.2.2.2.1;have cc6:=E10.out.cell HCB.out.2.2.2.2.2.2;go_wp2_with (at_builtin;refine wpList_appL fck ftk rfl (.tmp 45) (.tmp 50) rfl (B:=w2.heap.size) (V:=w2) (l:=L) (m:=[q]) (A:=some ⟨wy.heap.size,0,none⟩) (n:=1) (c:=1) rfl rfl ?own ?src ?len ?base ?_)
      case own=>exact HO10.out.up (Ext.alloc wy _)
      case src=>exact lsrc_one HGF.out (Box.new wy #[str qn,.slice A1 n1 c1,.int .i64 qr,.slice B1 m1 d1,.int .i64 qs,.bool qg,.slice N1 nn1 nc1] _)
      case len=>have h1:=HLL.out;have h2:=HLN.out;first|(simp;omega)|omega
      case base=>have:=E10.out.size;simp;omega
      intro vb w9 hOb hBb _ _;have HOb:=hid hOb;have Eb:=hid (show Ext w2 w9 from Below.trans (B:=w2.heap.size) (E10.out.trans (Ext.alloc wy _)) hBb);obtain⟨Ib,ib,rfl,-,-⟩:=HOb.out.shape;obtain⟨Lb,hLb⟩:∃x,L++[q]=x:=⟨_,rfl⟩;have HMb:=hid hLb;rw[hLb] at HOb |-;obtain⟨lb,hlb⟩:∃x,Lb.length=x:=⟨_,rfl⟩;have hleb:lb=L.length+1:=by rw[<-hlb,<-hLb];simp
      rw[hlb] at HOb |-;have HLb:=hid hlb;have HEb:=hid hleb;clear hOb hBb hlb hLb hleb;clear c0 cc1 cc2 cc3 cc4 cc5 cc6;go_wp2_with fail
      go_roundw
      case rel=>
       have h1:=HEQ.out;rw[HST.out] at h1;have h2:(qn==nm)=false:=HZE.out;have h3:qn≠nm:=by simpa using h2
       have h4:=HLL.out;have h5:=HLN.out;refine⟨k+1,false,Lb,by omega,by simp,rfl,⟨?_,Eb.out,?_,?_⟩⟩
       ·exact HOb.out
       ·rw[<-h1,<-HMb.out];simp[h3]
       ·have h6:=HLb.out;have h7:=HEb.out;first|omega|(simp;omega)
      case measure=>simp[intOf];omega
     case true=>
      go_wp2_with fail
      go_roundw
      case rel=>
       have h1:=HEQ.out;rw[HST.out] at h1;have h2:(qn==nm)=true:=HZE.out;have h3:qn=nm:=by simpa using h2
       have h4:=HLL.out;have h5:=HLN.out;refine⟨k+1,false,L,by omega,by simp,rfl,⟨?_,E10.out,?_,?_⟩⟩
       ·exact HO10.out
       ·rw[<-h1];simp[h3]
       ·first|omega|(simp;omega)
      case measure=>simp[intOf];omega
    case false=>
     obtain⟨⟨x0,x1,x2,x3,x4,x5,x6⟩,-⟩:=box7v HB.out;go_wp2_with (at_builtin;refine wpList_appL fck ftk rfl (.tmp 31) (.tmp 33) rfl (B:=w2.heap.size) (V:=w2) (l:=L) (m:=[f]) (A:=some ⟨wd.heap.size,0,none⟩) (n:=1) (c:=1) rfl rfl ?own ?src ?len ?base ?_)
     case own=>exact HO.out.up (Ext.alloc wd _)
     case src=>exact lsrc_one HWF.out (Box.new wd #[str nm,.slice A n0 c,.int .i64 rt,.slice B md d,.int .i64 es,.bool eg,.slice N nn nc] _)
     case len=>have h1:=HLL.out;have h2:=HLN.out;first|(simp;omega)|omega
     case base=>have:=E.out.size;simp;omega
     intro va w8 hOa hBa _ _;have HOa:=hid hOa;have Ea:=hid (show Ext w2 w8 from Below.trans (B:=w2.heap.size) (E.out.trans (Ext.alloc wd _)) hBa);obtain⟨Ia,ia,rfl,-,-⟩:=HOa.out.shape;obtain⟨La,hLa⟩:∃x,L++[f]=x:=⟨_,rfl⟩;have HMa:=hid hLa;rw[hLa] at HOa |-;obtain⟨la,hla⟩:∃x,La.length=x:=⟨_,rfl⟩;have hlea:la=L.length+1:=by rw[<-hla,<-hLa];simp
     rw[hla] at HOa |-;have HLa:=hid hla;have HEa:=hid hlea;clear hOa hBa hla hLa hlea;clear x0 x1 x2 x3 x4 x5 x6;go_upto_region 10 with (fail)
     refine wp_region_D [(0,0),(1,0),(2,0),(3,0),(4,0),(5,0),(6,0),(7,0),(8,0),(9,0)] fun wy hb=>?_;refine WE.p 35 (.slice (some ad) n mc) ?_;simp only[pX];refine WE.p 36 (.int .i64 (k:Int)) ?_;simp only[pX];refine WE.p 37 (.pointer (some (ad.add (k*7)))) ?_;simp only[pX];refine WE.p 38 (.pointer (some (ad.add (k*7)))) ?_;simp only[pX];refine WE.p 39 (.pointer (some (ad.add (k*7)))) ?_;simp only[pX];refine WE.q 40 (str qn) rfl (fun w' hk=>by have ce:=(Ea.out.trans (hb.trans hk)).cell HCB.out.1;go_simp) ?_;simp only[pX];refine WE.p 41 (.pointer (some ⟨g0,0,none⟩)) ?_;simp only[pX];refine WE.p 42 (.pointer (some ⟨g0,0,none⟩)) ?_;simp only[pX];refine WE.q 43 (str nm) rfl (fun w' hk=>by have ce:=(HB0.out.up (Ea.out.trans (hb.trans hk))).k 0;go_simp) ?_;simp only[pX];refine WE.p 44 (.bool (!ze)) ?_ (hy:=fun w' hk=>by have hz:=HZE.out;go_simp;try simp[bne,hz]);simp only[pX];refine WE.done ?_;have E10:=hid (Ea.out.trans hb);have HO10:=hid (HOa.out.up hb);clear hb;cases ze
     case false=>
      have c0:=E10.out.cell HCB.out.1;have cc1:=E10.out.cell HCB.out.2.1;have cc2:=E10.out.cell HCB.out.2.2.1;have cc3:=E10.out.cell HCB.out.2.2.2.1;have cc4:=E10.out.cell HCB.out.2.2.2.2.1;have cc5:=E10.out.cell HCB.out.2.2.2.2.2.1;have cc6:=E10.out.cell HCB.out.2.2.2.2.2.2;go_wp2_with (at_builtin;refine wpList_appL fck ftk rfl (.tmp 45) (.tmp 50) rfl (B:=w2.heap.size) (V:=w2) (l:=La) (m:=[q]) (A:=some ⟨wy.heap.size,0,none⟩) (n:=1) (c:=1) rfl rfl ?own ?src ?len ?base ?_)
      case own=>exact HO10.out.up (Ext.alloc wy _)
      case src=>exact lsrc_one HGF.out (Box.new wy #[str qn,.slice A1 n1 c1,.int .i64 qr,.slice B1 m1 d1,.int .i64 qs,.bool qg,.slice N1 nn1 nc1] _)
      case len=>have h1:=HLL.out;have h2:=HLN.out;have h3:=HLa.out;have h4:=HEa.out;first|(simp;omega)|omega
      case base=>have:=E10.out.size;simp;omega
      intro vb w9 hOb hBb _ _;have HOb:=hid hOb;have Eb:=hid (show Ext w2 w9 from Below.trans (B:=w2.heap.size) (E10.out.trans (Ext.alloc wy _)) hBb);obtain⟨Ib,ib,rfl,-,-⟩:=HOb.out.shape;obtain⟨Lb,hLb⟩:∃x,La++[q]=x:=⟨_,rfl⟩;have HMb:=hid hLb;rw[hLb] at HOb |-;obtain⟨lb,hlb⟩:∃x,Lb.length=x:=⟨_,rfl⟩;have hleb:lb=La.length+1:=by rw[<-hlb,<-hLb];simp
      rw[hlb] at HOb |-;have HLb:=hid hlb;have HEb:=hid hleb;clear hOb hBb hlb hLb hleb;clear c0 cc1 cc2 cc3 cc4 cc5 cc6;go_wp2_with fail
      go_roundw
      case rel=>
       have h1:=HEQ.out;rw[HST.out] at h1;have h2:(qn==nm)=false:=HZE.out;have h3:qn≠nm:=by simpa using h2
       have h4:=HLL.out;have h5:=HLN.out;refine⟨k+1,true,Lb,by omega,by simp,rfl,⟨?_,Eb.out,?_,?_⟩⟩
       ·exact HOb.out
       ·rw[<-h1,<-HMb.out,<-HMa.out];simp[h3]
       ·have h6:=HLa.out;have h7:=HEa.out;have h8:=HLb.out;have h9:=HEb.out;first|omega|(simp;omega)
      case measure=>simp[intOf];omega
     case true=>
      go_wp2_with fail
      go_roundw
      case rel=>
       have h1:=HEQ.out;rw[HST.out] at h1;have h2:(qn==nm)=true:=HZE.out;have h3:qn=nm:=by simpa using h2
       have h4:=HLL.out;have h5:=HLN.out;refine⟨k+1,true,La,by omega,by simp,rfl,⟨?_,E10.out,?_,?_⟩⟩
       ·exact HO10.out
       ·rw[<-h1,<-HMa.out];simp[h3]
       ·have h6:=HLa.out;have h7:=HEa.out;first|omega|(simp;omega)
      case measure=>simp[intOf];omega
   case true=>
    refine wp_region_D [(0,0),(1,0),(2,0),(3,0),(4,0),(5,0),(6,0),(7,0),(8,0),(9,0),(10,0),(11,0),(12,0),(13,0)] fun wd hb=>?_;refine WE.p 17 (.bool true) ?_;simp only[pX];refine WE.p 18 (.bool false) ?_;simp only[pX];refine WE.p 19 (.bool false) ?_;simp only[pX];refine WE.s 20 ?_;simp only[pX];refine WE.s 21 ?_;simp only[pX];refine WE.s 22 ?_;simp only[pX];refine WE.s 23 ?_;simp only[pX];refine WE.s 24 ?_;simp only[pX];refine WE.s 25 ?_;simp only[pX];refine WE.s 26 ?_;simp only[pX];refine WE.s 27 ?_;simp only[pX];refine WE.s 28 ?_;simp only[pX];refine WE.s 29 ?_;simp only[pX];refine WE.p 30 (.bool false) ?_;simp only[pX];refine WE.done ?_;replace E:=hid (E.out.trans hb);replace HB:=hid (HB.out.up hb);replace HO:=hid (HO.out.up hb);have HC2:=hid (show wd.cell? (ad.add (k*7))=some (str qn)/\wd.cell? ⟨(ad.add (k*7)).block,(ad.add (k*7)).off+1,none⟩=some (.slice A1 n1 c1)/\wd.cell? ⟨(ad.add (k*7)).block,(ad.add (k*7)).off+2,none⟩=some (.int .i64 qr)/\wd.cell? ⟨(ad.add (k*7)).block,(ad.add (k*7)).off+3,none⟩=some (.slice B1 m1 d1)/\wd.cell? ⟨(ad.add (k*7)).block,(ad.add (k*7)).off+4,none⟩=some (.int .i64 qs)/\wd.cell? ⟨(ad.add (k*7)).block,(ad.add (k*7)).off+5,none⟩=some (.bool qg)/\wd.cell? ⟨(ad.add (k*7)).block,(ad.add (k*7)).off+6,none⟩=some (.slice N1 nn1 nc1) from⟨hb.cell HC.out.1,hb.cell HC.out.2.1,hb.cell HC.out.2.2.1,hb.cell HC.out.2.2.2.1,hb.cell HC.out.2.2.2.2.1,hb.cell HC.out.2.2.2.2.2.1,hb.cell HC.out.2.2.2.2.2.2⟩);clear hb;go_upto_region 10 with (fail)
    refine wp_region_D [(0,0),(1,0),(2,0),(3,0),(4,0),(5,0),(6,0),(7,0),(8,0),(9,0)] fun wy hb=>?_;refine WE.p 35 (.slice (some ad) n mc) ?_;simp only[pX];refine WE.p 36 (.int .i64 (k:Int)) ?_;simp only[pX];refine WE.p 37 (.pointer (some (ad.add (k*7)))) ?_;simp only[pX];refine WE.p 38 (.pointer (some (ad.add (k*7)))) ?_;simp only[pX];refine WE.p 39 (.pointer (some (ad.add (k*7)))) ?_;simp only[pX];refine WE.q 40 (str qn) rfl (fun w' hk=>by have ce:=(E.out.trans (hb.trans hk)).cell HCB.out.1;go_simp) ?_;simp only[pX];refine WE.p 41 (.pointer (some ⟨g0,0,none⟩)) ?_;simp only[pX];refine WE.p 42 (.pointer (some ⟨g0,0,none⟩)) ?_;simp only[pX];refine WE.q 43 (str nm) rfl (fun w' hk=>by have ce:=(HB0.out.up (E.out.trans (hb.trans hk))).k 0;go_simp) ?_;simp only[pX];refine WE.p 44 (.bool (!ze)) ?_ (hy:=fun w' hk=>by have hz:=HZE.out;go_simp;try simp[bne,hz]);simp only[pX];refine WE.done ?_;have E10:=hid (E.out.trans hb);have HO10:=hid (HO.out.up hb);clear hb;cases ze
    case false=>
     have c0:=E10.out.cell HCB.out.1;have cc1:=E10.out.cell HCB.out.2.1;have cc2:=E10.out.cell HCB.out.2.2.1;have cc3:=E10.out.cell HCB.out.2.2.2.1;have cc4:=E10.out.cell HCB.out.2.2.2.2.1;have cc5:=E10.out.cell HCB.out.2.2.2.2.2.1;have cc6:=E10.out.cell HCB.out.2.2.2.2.2.2;go_wp2_with (at_builtin;refine wpList_appL fck ftk rfl (.tmp 45) (.tmp 50) rfl (B:=w2.heap.size) (V:=w2) (l:=L) (m:=[q]) (A:=some ⟨wy.heap.size,0,none⟩) (n:=1) (c:=1) rfl rfl ?own ?src ?len ?base ?_)
     case own=>exact HO10.out.up (Ext.alloc wy _)
     case src=>exact lsrc_one HGF.out (Box.new wy #[str qn,.slice A1 n1 c1,.int .i64 qr,.slice B1 m1 d1,.int .i64 qs,.bool qg,.slice N1 nn1 nc1] _)
     case len=>have h1:=HLL.out;have h2:=HLN.out;first|(simp;omega)|omega
     case base=>have:=E10.out.size;simp;omega
     intro vb w9 hOb hBb _ _;have HOb:=hid hOb;have Eb:=hid (show Ext w2 w9 from Below.trans (B:=w2.heap.size) (E10.out.trans (Ext.alloc wy _)) hBb);obtain⟨Ib,ib,rfl,-,-⟩:=HOb.out.shape;obtain⟨Lb,hLb⟩:∃x,L++[q]=x:=⟨_,rfl⟩;have HMb:=hid hLb;rw[hLb] at HOb |-;obtain⟨lb,hlb⟩:∃x,Lb.length=x:=⟨_,rfl⟩;have hleb:lb=L.length+1:=by rw[<-hlb,<-hLb];simp
     rw[hlb] at HOb |-;have HLb:=hid hlb;have HEb:=hid hleb;clear hOb hBb hlb hLb hleb;clear c0 cc1 cc2 cc3 cc4 cc5 cc6;go_wp2_with fail
     go_roundw
     case rel=>
      have h1:=HEQ.out;rw[HST.out] at h1;have h2:(qn==nm)=false:=HZE.out;have h3:qn≠nm:=by simpa using h2
      have h4:=HLL.out;have h5:=HLN.out;refine⟨k+1,true,Lb,by omega,by simp,rfl,⟨?_,Eb.out,?_,?_⟩⟩
      ·exact HOb.out
      ·rw[<-h1,<-HMb.out];simp[h3]
      ·have h6:=HLb.out;have h7:=HEb.out;first|omega|(simp;omega)
     case measure=>simp[intOf];omega
    case true=>
     go_wp2_with fail
     go_roundw
     case rel=>
      have h1:=HEQ.out;rw[HST.out] at h1;have h2:(qn==nm)=true:=HZE.out;have h3:qn=nm:=by simpa using h2
      have h4:=HLL.out;have h5:=HLN.out;refine⟨k+1,true,L,by omega,by simp,rfl,⟨?_,E10.out,?_,?_⟩⟩
      ·exact HO10.out
      ·rw[<-h1];simp[h3]
      ·first|omega|(simp;omega)
     case measure=>simp[intOf];omega
  ·obtain rfl:k=n:=by omega
   have h1:=HEQ.out;rw[List.drop_eq_nil_of_le (by rw[HN.out];exact Nat.le_refl _),M.wth,HPT.out] at h1;have H1:=hid h1;have HB:=hid (HB0.out.up E.out);clear h1;cases dd
   case true=>
    have HF:=hid (show FnList wr (M.mPut m f) (.slice IA ln ic)/\Ext w wr from by
     have h2:=H1.out;rw[if_pos rfl,List.append_nil] at h2;rw[<-h2];exact⟨HO.out.funsV E.out,E2.out.trans E.out⟩)
    clear HB HO H1;go_wp2_with fail
    go_ret;exact⟨_,rfl,HF.out.1,HF.out.2⟩
   case false=>
    obtain⟨⟨x0,x1,x2,x3,x4,x5,x6⟩,-⟩:=box7v HB.out;go_wp2_with (at_builtin;refine wpList_appL fck ftk rfl (.tmp 54) (.tmp 56) rfl (B:=w2.heap.size) (V:=w2) (l:=L) (m:=[f]) (A:=some ⟨wr.heap.size,0,none⟩) (n:=1) (c:=1) rfl rfl ?own ?src ?len ?base ?_)
    case own=>exact HO.out.up (Ext.alloc wr _)
    case src=>exact lsrc_one HWF.out (Box.new wr #[str nm,.slice A n0 c,.int .i64 rt,.slice B md d,.int .i64 es,.bool eg,.slice N nn nc] _)
    case len=>have h1:=HLL.out;have h2:=HLN.out;first|(simp;omega)|omega
    case base=>have:=E.out.size;simp;omega
    intro va w8 hOa hBa _ _;have HF:=hid (show FnList w8 (M.mPut m f) va/\Ext w w8 from by
     have h2:=H1.out;rw[if_neg (by decide)] at h2;have e8:Ext w2 w8:=Below.trans (B:=w2.heap.size) (E.out.trans (Ext.alloc wr _)) hBa;rw[<-h2];exact⟨hOa.funsV e8,E2.out.trans e8⟩)
    obtain⟨Ia,ia,rfl,-,-⟩:=hOa.shape;clear hOa hBa x0 x1 x2 x3 x4 x5 x6 HB HO H1;go_wp2_with fail
    go_ret;exact⟨_,rfl,HF.out.1,HF.out.2⟩
set_option maxHeartbeats 8000000 in
set_option maxRecDepth 20000 in
theorem xPut_n {l:List M.Fn}{nm:List UInt8}{x:M.Vl}{v xv:Value}{w:World}(h:FnList w l v)(hx:IsVl w x xv)(hl:∀g∈l,g.sg.name.length<=1000000000000)(hnl:nm.length<=1000000000000)(hlen:l.length<=100000):
 Calls Tryz.prog 27 #[v,str nm,xv] w (fun e w'=>∃u,e=.returned u/\FnList w' (M.mPut (M.mRead l) (M.constF nm x)) u/\Ext w w'):=by
 obtain⟨N,nn,nc,rfl,hn⟩:=hx;have HW:=hid (fun (w':World) (e:Ext w w')=>xWith_n (f:=M.constF nm x) (fw:=fv nm none 0 0 x.1 none 0 0 x.1 x.2.1 N nn nc) (h.up e) ⟨none,0,0,none,0,0,N,nn,nc,rfl,⟨none,0,0,rfl,rfl,Nat.le_refl _,Nat.zero_le _,fun h=>absurd rfl h⟩,RwList.nil _,LNum.up hn e⟩ hl hnl hlen);obtain⟨A,c,rfl⟩:=h.shape;obtain⟨xs,xg,ls⟩:=x;have HB0:=hid (Box.new w #[.int .i64 xs,.bool xg,.slice N nn nc] 45);have E0:=hid (Ext.alloc w (.cells #[.int .i64 xs,.bool xg,.slice N nn nc] 45));clear h hn hl hnl hlen;show Calls Tryz.prog 27 #[_,str nm,vv xs xg N nn nc] w _;go_enter Tryz.func27,Tryz.ntmps27
 go_upto_region 1 with (fail)
 refine vwp_at (fun W'=>Box W' w.heap.size #[.int .i64 xs,.bool xg,.slice N nn nc] 45/\Ext w W') ⟨HB0.out,E0.out⟩ ?_;clear HB0 E0;intro W1 ⟨hb0,he⟩;obtain⟨g0,hg0⟩:∃g,w.heap.size=g:=⟨_,rfl⟩;rw[hg0] at hb0 |-;have E1:=hid he;have c0:=hb0.k 0;have c1:=hb0.k 1;have c2:=hb0.k 2;clear hb0 he hg0;go_wp2_with fail
 refine(HW.out _ E1.out).mono ?_;rintro e w2 ⟨u,rfl,hu,hx⟩;have HU:=hid (And.intro hu (E1.out.trans hx));obtain⟨A',c',rfl⟩:=hu.shape;clear hu hx c0 c1 c2 HW;go_wp2_with fail
 go_ret;exact⟨_,rfl,HU.out.1,HU.out.2⟩
end Go.Proofs.YtoenjbkmiphhoaaGreatDoor.Q
