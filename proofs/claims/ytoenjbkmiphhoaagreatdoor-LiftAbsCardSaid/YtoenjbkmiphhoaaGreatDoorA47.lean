import Derived.Test.YtoenjbkmiphhoaaGreatDoorA46
import Derived.Test.YtoenjbkmiphhoaaGreatDoorA32
set_option linter.unusedSimpArgs false
set_option linter.unusedVariables false
namespace Go.Proofs.YtoenjbkmiphhoaaGreatDoor.Q
open Go.RowKit
namespace M
theorem kcheck_sorted {op:Int}{l:List Tm}(h:kcheck op l=0): ksorted op l=true:=by
 unfold kcheck at h
 split at h
 ·omega
 ·rename_i hq;simpa using hq
theorem kall_mem {l:List Tm}{s:Int}(h:kall l s=true){k:Nat}{u:Tm}(hu:l[k]?=some u): u.sort=s:=by
 unfold kall at h;exact of_decide_eq_true (List.all_eq_true.1 h u (List.mem_of_getElem? hu))
theorem sorted_bool {op:Int}{l:List Tm}(h:kcheck op l=0)(ho:op=5\/op=6\/op=7\/op=8\/op=9){k:Nat}{u:Tm}(hu:l[k]?=some u): u.sort=1:=by
 have h1:=kcheck_sorted h;unfold ksorted at h1;rw[if_pos ho] at h1;exact kall_mem h1 hu
theorem sorted_ite {x y z:Tm}(h:kcheck 12 [x,y,z]=0): x.sort=1:=by
 have h1:=kcheck_sorted h;unfold ksorted at h1;rw[if_neg (by decide),if_pos rfl,Bool.and_eq_true] at h1;exact of_decide_eq_true h1.1
theorem lin_two {op:Int}{x y:Tm}(h:kcheck op [x,y]=0)(ho:op=16\/op=17): (knum y).isNone=false:=by
 have h1:=kcheck_lin h;unfold klin at h1;rw[if_neg (by omega),if_pos ho] at h1;replace h1:(match knum y with|none=>(19:Int)|some z=>if z=0 then 12 else 0)=0:=h1;rcases hq:knum y with _|z
 ·rw[hq] at h1;exact absurd h1 (by decide)
 ·rfl
theorem evs_can {m:List Fn}(hm:∀f∈m,fnIs f=true){ks:List Tm}(hk:kiss ks=true): ∀x∈evs m ks,canV x:=fun x hx=>by
 obtain⟨k,u,hu,rfl⟩:=evs_mem hx;exact vIs_can (ev_is hm u (kiss_at hk hu))
theorem evs_bool {m:List Fn}(hm:∀f∈m,fnIs f=true){ks:List Tm}(hk:kiss ks=true){op:Int}(h:kcheck op ks=0)(ho:op=5\/op=6\/op=7\/op=8\/op=9): ∀x∈evs m ks,vIs x 1=true:=fun x hx=>by
 obtain⟨k,u,hu,rfl⟩:=evs_mem hx;rw[<-sorted_bool h ho hu];exact ev_is hm u (kiss_at hk hu)
theorem vIs_sort {x:Vl}{s:Int}(h:vIs x s=true): x.1=s:=by
 unfold vIs at h;rw[Bool.and_eq_true] at h;exact of_decide_eq_true h.1
theorem evs_sorts {m:List Fn}(hm:∀f∈m,fnIs f=true): ∀{ks:List Tm},kiss ks=true->(evs m ks).map (·.1)=ks.map (·.sort)
 | [],_=>by rw[evs];rfl
 | t::r,h=>by
  rw[kiss,Bool.and_eq_true] at h;rw[evs,List.map_cons,List.map_cons,evs_sorts hm h.2,vIs_sort (ev_is hm t h.1)]
end M
structure StrX (U:Nat)(w:World)(m:List M.Fn)(v:Value): Prop where
 list:FnList w m v
 is:M.mIs m=true
 nm:∀f∈m,f.sg.name.length<=1000000000000
 wd:∀f∈m,M.fnWd U f
theorem StrX.up {U:Nat}{w w':World}{m:List M.Fn}{v:Value}(h:StrX U w m v)(e:Ext w w'): StrX U w' m v:=⟨h.list.up e,h.is,h.nm,h.wd⟩
theorem M.mRead_id {m:List M.Fn}(h:M.mIs m=true): M.mRead m=m:=by unfold M.mRead;rw[if_pos h]
theorem M.mRead_mIs (m:List M.Fn): M.mIs (M.mRead m)=true:=by
 unfold M.mRead
 split
 ·assumption
 ·rfl
theorem M.fnsIs {m:List M.Fn}(h:M.mIs m=true): ∀f∈m,M.fnIs f=true:=fun f hf=>by
 obtain⟨k,hk⟩:=List.getElem?_of_mem hf;exact M.mIs_fn h hk
mutual
def M.allOp2 (P:Int->Nat->Bool): M.Tm->Bool
 | .mk op _ _ _ _ ks=>P op ks.length&&M.allOps2 P ks
def M.allOps2 (P:Int->Nat->Bool): List M.Tm->Bool
 | []=>true
 | t::r=>M.allOp2 P t&&M.allOps2 P r
end
theorem M.allOps2_at {P:Int->Nat->Bool}: ∀{ks:List M.Tm} {k:Nat} {u:M.Tm},M.allOps2 P ks=true->ks[k]?=some u->M.allOp2 P u=true
 | [],_,_,_,h=>by simp at h
 | x::r,0,u,h,e=>by simp at e;subst e;rw[M.allOps2,Bool.and_eq_true] at h;exact h.1
 | x::r,k+1,u,h,e=>by rw[M.allOps2,Bool.and_eq_true] at h;exact M.allOps2_at h.2 (k:=k) (by simpa using e)
structure XTermC (P:Int->Nat->Bool): Prop where
 sum:∀{L:List M.Vl} {op:Int} {v:Value} {w:World} {W:Nat},P op L.length=true->VList w v L->(∀x∈L,M.canV x)->(∀x∈L,x.2.2.length<=W)->W<=100000->L.length<=100000->(op=13/\1<=L.length)\/(op=14/\2<=L.length)->Calls Tryz.prog 87 #[.int .i64 op,v] w (GivesZ w (M.mReck op (L.map M.cz)) (W+L.length))
 neg:P 14 1=true->∀{x:M.Vl} {v:Value} {w:World} {W:Nat},VList w v [x]->M.canV x->x.2.2.length<=W->Calls Tryz.prog 87 #[.int .i64 14,v] w (GivesZ w (-M.cz x) W)
 abs:∀{x:M.Vl} {r:List M.Vl} {v:Value} {w:World} {W:Nat},P 18 (x::r).length=true->VList w v (x::r)->M.canV x->x.2.2.length<=W->Calls Tryz.prog 87 #[.int .i64 18,v] w (GivesZ w ((M.cz x).natAbs:Int) W)
 mul:P 15 2=true->∀{x y:M.Vl} {v:Value} {w:World} {W V:Nat},VList w v [x,y]->M.canV x->x.2.2.length<=W->y.2.2.length<=V->W<=100000/\V<=100000->Calls Tryz.prog 87 #[.int .i64 15,v] w (GivesZ w (M.cz x*M.cz y) (x.2.2.length+y.2.2.length))
 div:P 16 2=true->∀{x y:M.Vl} {v:Value} {w:World} {W V:Nat},VList w v [x,y]->M.canV x->x.2.2.length<=W->y.2.2.length<=V->W<=100000/\V<=100000->Calls Tryz.prog 87 #[.int .i64 16,v] w (GivesZ w (M.cz x/M.cz y) (max W 1+1+V+1))
 mod:P 17 2=true->∀{x y:M.Vl} {v:Value} {w:World} {W V:Nat},VList w v [x,y]->M.canV x->x.2.2.length<=W->y.2.2.length<=V->W<=100000/\V<=100000->Calls Tryz.prog 87 #[.int .i64 17,v] w (GivesZ w (M.cz x%M.cz y) (max W 1+1+V+1))
 not_:P 5 1=true->∀{x:M.Vl} {v:Value} {w:World},VList w v [x]->M.vIs x 1=true->Calls Tryz.prog 88 #[.int .i64 5,v] w (GivesB w (M.mTold 5 [x]))
 and_:∀{L:List M.Vl} {v:Value} {w:World},P 6 L.length=true->VList w v L->(∀x∈L,M.vIs x 1=true)->Calls Tryz.prog 88 #[.int .i64 6,v] w (GivesB w (M.mTold 6 L))
 or_:∀{L:List M.Vl} {v:Value} {w:World},P 7 L.length=true->VList w v L->(∀x∈L,M.vIs x 1=true)->Calls Tryz.prog 88 #[.int .i64 7,v] w (GivesB w (M.mTold 7 L))
 dist:∀{L:List M.Vl} {v:Value} {w:World},P 11 L.length=true->VList w v L->(∀x∈L,M.canV x)->Calls Tryz.prog 88 #[.int .i64 11,v] w (GivesB w (M.mTold 11 L))
 xor:P 8 2=true->∀{x y:M.Vl} {v:Value} {w:World},VList w v [x,y]->M.vIs x 1=true->M.vIs y 1=true->Calls Tryz.prog 88 #[.int .i64 8,v] w (GivesB w (M.mTold 8 [x,y]))
 imp:P 9 2=true->∀{x y:M.Vl} {v:Value} {w:World},VList w v [x,y]->M.vIs x 1=true->M.vIs y 1=true->Calls Tryz.prog 88 #[.int .i64 9,v] w (GivesB w (M.mTold 9 [x,y]))
 eq:P 10 2=true->∀{x y:M.Vl} {v:Value} {w:World},VList w v [x,y]->M.canV x->M.canV y->Calls Tryz.prog 88 #[.int .i64 10,v] w (GivesB w (M.mTold 10 [x,y]))
 c19:P 19 2=true->∀{x y:M.Vl} {v:Value} {w:World},VList w v [x,y]->Calls Tryz.prog 88 #[.int .i64 19,v] w (GivesB w (M.mTold 19 [x,y]))
 c20:P 20 2=true->∀{x y:M.Vl} {v:Value} {w:World},VList w v [x,y]->Calls Tryz.prog 88 #[.int .i64 20,v] w (GivesB w (M.mTold 20 [x,y]))
 c21:P 21 2=true->∀{x y:M.Vl} {v:Value} {w:World},VList w v [x,y]->Calls Tryz.prog 88 #[.int .i64 21,v] w (GivesB w (M.mTold 21 [x,y]))
 c22:P 22 2=true->∀{x y:M.Vl} {v:Value} {w:World},VList w v [x,y]->Calls Tryz.prog 88 #[.int .i64 22,v] w (GivesB w (M.mTold 22 [x,y]))
set_option maxHeartbeats 16000000 in
set_option maxRecDepth 100000 in
theorem xeval_g {P:Int->Nat->Bool}(C:XTermC P){U:Nat}(hU:40<=U)(hU2:U<=70000){m:List M.Fn}: ∀(F:Nat) {t:M.Tm} {mv v:Value} {w:World},M.kcnt t<F->M.allOp2 P t=true->M.kis t=true->M.kcnt t<=400->M.kfew t=true->StrX U w m mv->IsTm w t v->Calls Tryz.prog 49 #[v,mv] w (GivesVW w (M.ev m t) (U+50*M.kcnt t))
 | 0,_,_,_,_,hF,_,_,_,_,_,_=>absurd hF (Nat.not_lt_zero _)
 | F+1,t,mv,v,w,hF,hP,hk,h400,hf,hm,ht=>by
  have htt:=ht;obtain⟨op,g,ls,nm,s,ks⟩:=t;obtain⟨N,nn,nc,A,c,rfl,hn,hks⟩:=ht;replace hn:LNum w (.slice N nn nc) ls:=hn;replace hks:Tms w ks (.slice A ks.length c):=hks;replace htt:IsTm w (.mk op g ls nm s ks) (kv op g N nn nc nm s A ks.length c):=htt;show Calls Tryz.prog 49 #[kv op g N nn nc nm s A ks.length c,mv] w _;have HSO:=hid (show ∀w',Ext w w'->Calls Tryz.prog 86 #[kv op g N nn nc nm s A ks.length c] w' (GivesSg w' ⟨nm,ks.map M.Tm.sort,s⟩) from fun w' e=>kSigOf_n (htt.up e) (by show ks.length<=1000000;rw[M.kcnt] at h400;have:=M.kcnts_len ks;omega));rw[M.allOp2,Bool.and_eq_true] at hP;rw[M.kis_mk,Bool.and_eq_true] at hk;have hcnt:M.kcnt (.mk op g ls nm s ks)=1+M.kcnts ks:=by rw[M.kcnt]
  rw[hcnt] at hF h400;have hkl:=M.kcnts_len ks;obtain⟨hf1,hf2,hf3⟩:=M.kfew_parts hf;replace hf1:nm.length<=30:=hf1;replace hf2:ls.length<=40:=hf2;replace hf3:M.kfews ks=true:=hf3;have HT:=hid (show ∀(k:Nat) (u:M.Tm),ks[k]?=some u->∀uv w',Ext w w'->IsTm w' u uv->Calls Tryz.prog 49 #[uv,mv] w' (GivesVW w' (M.ev m u) (U+50*M.kcnt u)) from fun k u hu uv w' e hu2=>
   xeval_g C hU hU2 F (by have:=M.kcnts_at hu;omega) (M.allOps2_at hP.2 hu) (M.kiss_at hk.1 hu) (by have:=M.kcnts_at hu;omega) (M.kfews_at hf3 hu) (hm.up e) hu2)
  have HM:=hid (fun w' (e:Ext w w')=>hm.up e);have HFI:=hid (M.fnsIs hm.is);have HMR:=hid (M.mRead_id hm.is);obtain⟨MA,mc,rfl⟩:=hm.list.shape;obtain⟨mn,hmn⟩:∃n,m.length=n:=⟨_,rfl⟩;obtain⟨kn,hkn⟩:∃n,ks.length=n:=⟨_,rfl⟩;rw[hmn] at HM HT;rw[hkn] at HSO hks;rw[hmn,hkn];obtain⟨X,hX⟩:∃X,M.ev m (.mk op g ls nm s ks)=X:=⟨_,rfl⟩;rw[hcnt,hX];have HX:=hid hX;have HH:=hid hk.2;have HPO:=hid (hkn▸hP.1);have HKI:=hid hk.1;have HKN:=hid hkn;have HF3:=hid hf3;have HKL:=hid hkl;have HN:=hid (fun w' (e:Ext w w')=>LNum.up hn e);have HK:=hid (fun w' (e:Ext w w')=>hks.up e);have hle:=hks.le;have HL:=hid hf2;have HNM:=hid hf1;have H400:=hid h400;have HB0:=hid (show Box ((w.alloc (.cells #[.int .i64 op,.bool g,.slice N nn nc,str nm,.int .i64 s,.slice A kn c] 27)).alloc (.cells zero3v 45)) w.heap.size #[.int .i64 op,.bool g,.slice N nn nc,str nm,.int .i64 s,.slice A kn c] 27 from(Box.new w _ _).alloc _);have HB1:=hid (show Box ((w.alloc (.cells #[.int .i64 op,.bool g,.slice N nn nc,str nm,.int .i64 s,.slice A kn c] 27)).alloc (.cells zero3v 45)) (w.heap.size+1) zero3v 45 from Box.at_ (w:=w.alloc (.cells #[.int .i64 op,.bool g,.slice N nn nc,str nm,.int .i64 s,.slice A kn c] 27)) _ _ (by simp));have E0:=hid (alloc_two w (.cells #[.int .i64 op,.bool g,.slice N nn nc,str nm,.int .i64 s,.slice A kn c] 27) (.cells zero3v 45));have hkc:kn<=c/\c<=9223372036854775807:=by rw[<-hkn] at hle |-;exact hle.2
  clear hF hP hk h400 hf hm hn hks hcnt hkl hf1 hf2 hf3 hmn hkn hX htt hle;go_enter Tryz.func49,Tryz.ntmps49
  go_upto_region 1 with (fail)
  refine vwp_at (fun W=>Box W w.heap.size #[.int .i64 op,.bool g,.slice N nn nc,str nm,.int .i64 s,.slice A kn c] 27/\Box W (w.heap.size+1) zero3v 45/\Ext w W) ⟨HB0.out,HB1.out,E0.out⟩ ?_;clear HB0 HB1 E0;intro W ⟨hb0,hb1,he⟩;obtain⟨g0,hg0⟩:∃g,w.heap.size=g:=⟨_,rfl⟩;have HG:=hid (show w.heap.size<=g0+1 by omega);rw[hg0] at hb0 hb1 |-;have HB0:=hid hb0;have HB1:=hid hb1;have E:=hid he;have HWS:=hid (show g0+1<W.heap.size from hb1.lt);clear hb0 hb1 he hg0;go_wp2_with fail
  go_loopw[5,6] (fun x i wr=>∃k:Nat,k<=kn/\i=.int .i64 k/\Hid (VOwn W.heap.size wr x ((ks.take k).map (M.ev m))/\Ext W wr/\∀t∈ks.take k,(M.ev m t).2.2.length<=U+50*M.kcnt t)) (fun _ i _=>kn-(intOf i).toNat)
  case atStart=>exact⟨0,Nat.zero_le _,rfl,VOwn.nil _ _,Ext.refl _,fun t ht=>by simp at ht⟩
  case round=>
   obtain⟨k,hk,rfl,hR⟩:=hrel;have ER:=hid hR.out.2.1;have HWD:=hid hR.out.2.2;obtain⟨L,hL⟩:∃L,(ks.take k).map (M.ev m)=L:=⟨_,rfl⟩;have hO:=hR.out.1;rw[hL] at hO;have HLE:=hid hL;have HLK:=hid (show L.length=k by rw[<-HLE.out,List.length_map,List.length_take,HKN.out];omega);obtain⟨VA,vn,vc,rfl⟩:=hO.shape;have HO:=hid hO;clear hR hL hO;have HB0':=hid (HB0.out.up ER.out);have HB1':=hid (HB1.out.up ER.out);obtain⟨⟨b0,b1,b2,b3,b4,b5⟩,-,-⟩:=boxF6 HB0'.out;rcases Nat.lt_or_ge k kn with hlt|hge
   ·have hlt':(k:Int)<(kn:Int):=by omega
    obtain⟨ad,t,N',nn',nc',B,d,rfl,ht,⟨c0,c1,c2,c3,c4,c5⟩,hit⟩:=(HK.out _ (E.out.trans ER.out)).get hlt;have HTK:=hid ht;obtain⟨o1,ho1⟩:∃o,t.op=o:=⟨_,rfl⟩;obtain⟨o2,ho2⟩:∃o,t.g=o:=⟨_,rfl⟩;obtain⟨o3,ho3⟩:∃o,t.name=o:=⟨_,rfl⟩;obtain⟨o4,ho4⟩:∃o,t.sort=o:=⟨_,rfl⟩;obtain⟨o5,ho5⟩:∃o,t.kids.length=o:=⟨_,rfl⟩;rw[ho1] at c0 hit;rw[ho2] at c1 hit;rw[ho3] at c3 hit;rw[ho4] at c4 hit;rw[ho5] at c5 hit;obtain⟨Y,hY⟩:∃Y,M.ev m t=Y:=⟨_,rfl⟩;have HY:=hid hY;have HC:=hid (show Calls Tryz.prog 49 #[kv o1 o2 N' nn' nc' o3 o4 B o5 d,.slice MA mn mc] wr (GivesVW wr Y (U+50*M.kcnt t)) from hY▸HT.out k t ht _ wr (E.out.trans ER.out) hit);have hlen9:=hid (show L.length+1<=1000000 by have:=HLK.out;have:=HKL.out;have:=H400.out;have:=HKN.out;omega);clear ht hit ho1 ho2 ho3 ho4 ho5 hY;go_wp2_with fail
    refine HC.out.mono ?_;rintro e w3 ⟨v3,rfl,hv3,hx,hwd⟩;obtain⟨xs,xg,xl⟩:=Y;obtain⟨N3,n3,c3',rfl,hn3⟩:=hv3;replace hn3:LNum w3 (.slice N3 n3 c3') xl:=hn3;have E3:=hid hx;have HN3:=hid hn3;have HW3:=hid hwd;clear hx hn3 hwd c0 c1 c2 c3 c4 c5 b0 b1 b2 b3 b4 b5 HC HB0' HB1';go_wp2_with (at_builtin;refine wpList_appV rfl (.tmp 14) (.tmp 22) rfl (base:=W.heap.size) (ls:=L) (V:=xs) (b:=xg) (A:=N3) (n:=n3) (c:=c3') (l:=xl) (gL:=w3.heap.size) (tL:=45) rfl rfl ?own ?box ?num hlen9.out ?base ?_)
    case own=>exact(HO.out.up E3.out).up (Ext.alloc w3 _)
    case box=>exact Box.new w3 _ _
    case num=>exact LNum.up HN3.out (Ext.alloc w3 _)
    case base=>have:=ER.out.size;have:=E3.out.size;simp;omega
    intro v' w5 hO5 hk5 hks;have HO5:=hid hO5;have E5:=hid (show Ext W w5 from((ER.out.trans E3.out).trans (Ext.alloc w3 _)).keptG hk5 HO.out.blk);clear hO5 hk5 hks;go_wp2_with fail
    go_roundw
    case rel=>exact⟨k+1,by omega,by simp,by rw[List.take_add_one,HTK.out,List.map_append,HLE.out];simp only[Option.toList,List.map_cons,List.map_nil,HY.out];exact HO5.out,E5.out,fun u hu=>(by
     rw[List.take_add_one,HTK.out,List.mem_append] at hu;rcases hu with hu|hu
     ·exact HWD.out u hu
     ·simp at hu;subst hu;rw[HY.out];exact HW3.out)⟩
    case measure=>simp[intOf];omega
   ·obtain rfl:k=kn:=by omega
    have HLV:=hid (show M.evs m ks=L by rw[M.evs_map,<-HLE.out,<-HKN.out,List.take_length]);have HWV:=hid (show ∀t∈ks,(M.ev m t).2.2.length<=U+50*M.kcnt t by have h:=HWD.out;rw[<-HKN.out,List.take_length] at h;exact h);have HV:=hid HO.out.list;have hvc:=HV.out.count;have HVC:=hid hvc;obtain⟨w1,hw1⟩:∃w1,w1=wr:=⟨_,rfl⟩;have E1:=hid (E.out.trans ER.out);rw[<-hw1] at E1 HV HB0' HB1' b0 b1 b2 b3 b4 b5 |-;clear HLE HWD HO HB0 HB1 hw1 HK HT ER hvc
    by_cases h1:op=1
    ·subst h1;have HE:=hid (show X=(2,g,ls) by rw[<-HX.out,M.ev,if_pos rfl]);have HV1:=hid (show IsVl w1 (2,g,ls) (vv 2 g N nn nc) from⟨N,nn,nc,rfl,HN.out _ E1.out⟩);obtain⟨⟨r0,r1,r2⟩,⟨f0,f1,f2⟩,hz⟩:=box3v HB1'.out;clear HX HH HKI HSO;go_wp2_with fail
     refine bodyPost_ret (v:=vv 2 g N nn nc) (by simp[results,Tryz.results49,go_sem,r0,r1,r2,hz]) rfl ?_;rw[HE.out];exact v_stored HB1'.out HV1.out (by have:=HL.out;show ls.length<=_;omega) E1.out HG.out
    by_cases h2:op=2
    ·subst h2;have HE:=hid (show X=M.vTruth true by rw[<-HX.out,M.ev,if_neg (by decide),if_pos rfl]);have HC:=hid (fun w'=>xTruth_n true w');clear HX HH HKI HSO h1;go_wp2_with fail
     refine(HC.out _).mono ?_;rintro e w2 ⟨v1,rfl,hv1,hx⟩;have HV1:=hid hv1;obtain⟨N1,n1,c1,rfl,-⟩:=hv1;have E2:=hid (E1.out.trans hx);have HB:=hid (HB1'.out.up hx);obtain⟨⟨r0,r1,r2⟩,⟨f0,f1,f2⟩,hz⟩:=box3v HB.out;clear hx b0 b1 b2 b3 b4 b5 HC;go_wp2_with fail
     refine bodyPost_ret (v:=vv (M.vTruth true).1 (M.vTruth true).2.1 N1 n1 c1) (by simp[results,Tryz.results49,go_sem,r0,r1,r2,hz]) rfl ?_;rw[HE.out]
     exact v_stored HB.out HV1.out (by show (M.limbs 1).length <= _; have : (M.limbs 1).length = 1 := by decide +kernel
                                       omega) E2.out HG.out
    by_cases h3:op=3
    ·subst h3;have HE:=hid (show X=M.vTruth false by rw[<-HX.out,M.ev,if_neg (by decide),if_neg (by decide),if_pos rfl]);have HC:=hid (fun w'=>xTruth_n false w');clear HX HH HKI HSO h1 h2;go_wp2_with fail
     refine(HC.out _).mono ?_;rintro e w2 ⟨v1,rfl,hv1,hx⟩;have HV1:=hid hv1;obtain⟨N1,n1,c1,rfl,-⟩:=hv1;have E2:=hid (E1.out.trans hx);have HB:=hid (HB1'.out.up hx);obtain⟨⟨r0,r1,r2⟩,⟨f0,f1,f2⟩,hz⟩:=box3v HB.out;clear hx b0 b1 b2 b3 b4 b5 HC;go_wp2_with fail
     refine bodyPost_ret (v:=vv (M.vTruth false).1 (M.vTruth false).2.1 N1 n1 c1) (by simp[results,Tryz.results49,go_sem,r0,r1,r2,hz]) rfl ?_;rw[HE.out];exact v_stored HB.out HV1.out (Nat.zero_le _) E2.out HG.out
    have hq1:(op==1)=false:=by simpa using h1
    have hq2:(op==2)=false:=by simpa using h2
    have hq3:(op==3)=false:=by simpa using h3
    by_cases h4:op=4
    ·subst h4;have HE:=hid (show X=M.mOf m ⟨nm,ks.map M.Tm.sort,s⟩ L by rw[<-HX.out,M.ev,if_neg (by decide),if_neg (by decide),if_neg (by decide),if_pos rfl,M.evs_sorts HFI.out HKI.out,HLV.out]);have HWX:=hid (show X.2.2.length<=U+50*(1+M.kcnts ks) by
      rw[HE.out];exact Nat.le_trans (M.mOf_wdN (s:=⟨nm,ks.map M.Tm.sort,s⟩) (fun f hf _=>(HM.out w (Ext.refl _)).wd f hf) L) (by omega))
     have hmm:=HM.out w1 E1.out;have HC:=hid (show ∀w' sv,Ext w1 w'->IsSg w' ⟨nm,ks.map M.Tm.sort,s⟩ sv->Calls Tryz.prog 85 #[.slice MA mn mc,sv,.slice VA vn vc] w' (GivesV w' X) from fun w' sv e hs=>by
      rw[HE.out,<-HMR.out];exact xOf_n (hmm.list.up e) hmm.nm hs (HV.out.up e) (by rw[<-HLV.out];exact M.evs_can HFI.out HKI.out))
     replace HSO:=hid (HSO.out _ E1.out);clear HX HH HKI hmm hq1 hq2 hq3 h1 h2 h3;go_wp2_with fail
     refine HSO.out.mono ?_;rintro e w2 ⟨IA,ic,rfl,hi,hx⟩;have HSG:=hid (show IsSg w2 ⟨nm,ks.map M.Tm.sort,s⟩ (sgv nm IA (ks.map M.Tm.sort).length ic s) from⟨IA,ic,rfl,hi⟩);replace HC:=hid (HC.out w2 _ hx HSG.out);obtain⟨il,hil⟩:∃n,(ks.map M.Tm.sort).length=n:=⟨_,rfl⟩;rw[hil] at HC;simp only[hil];have E2:=hid (E1.out.trans hx);have HB:=hid (HB1'.out.up hx);clear hx hi HSG HSO b0 b1 b2 b3 b4 b5 hil;go_wp2_with fail
     refine HC.out.mono ?_;rintro e w3 ⟨v3,rfl,hv3,hb⟩;have HV3:=hid hv3;obtain⟨N3,n3,c3,rfl,-⟩:=hv3;have E3:=hid (E2.out.trans hb);replace HB:=hid (HB.out.up hb);clear hb HC;obtain⟨⟨r0,r1,r2⟩,⟨f0,f1,f2⟩,hz⟩:=box3v HB.out;obtain⟨xs,xg,xl⟩:=X;go_wp2_with fail
     refine bodyPost_ret (v:=vv xs xg N3 n3 c3) (by simp[results,Tryz.results49,go_sem,r0,r1,r2,hz]) rfl ?_;exact v_stored HB.out HV3.out HWX.out E3.out HG.out
    have hq4:(op==4)=false:=by simpa using h4
    obtain⟨h5,h22,ha,hck,hsk⟩:=M.khead_op HH.out h1 h2 h3 h4;have HXE:=hid (show X=if op=12 then (if M.vHolds (L.getD 0 (0,false,[]))=true then L.getD 1 (0,false,[]) else L.getD 2 (0,false,[])) else if s=2 then M.vz 2 (M.mReck op (L.map M.cz)) else M.vTruth (M.mTold op L) by rw[<-HX.out,M.ev,if_neg h1,if_neg h2,if_neg h3,if_neg h4,HLV.out]);have HLL:=hid (show L.length=k by rw[<-HLV.out,M.evs_len,HKN.out]);clear HX HSO h1 h2 h3 h4
    by_cases h12:op=12
    ·subst h12;have hl3:=M.kargs_three ha;obtain⟨u0,u1,u2,hks⟩:=M.three_of hl3;have hs0:M.vIs (M.ev m u0) 1=true:=by
      have h1:=hck;rw[hks] at h1;rw[<-M.sorted_ite h1];exact M.ev_is HFI.out u0 (M.kiss_at (k:=0) HKI.out (by rw[hks];rfl))
     have hLL:L=[M.ev m u0,M.ev m u1,M.ev m u2]:=by rw[<-HLV.out,M.evs_map,hks];rfl
     obtain⟨x,hx0⟩:∃x,M.ev m u0=x:=⟨_,rfl⟩;obtain⟨y,hy0⟩:∃x,M.ev m u1=x:=⟨_,rfl⟩;obtain⟨z,hz0⟩:∃x,M.ev m u2=x:=⟨_,rfl⟩;have hwy:y.2.2.length<=U+50*(1+M.kcnts ks):=by
      have h1:=HWV.out u1 (by rw[hks];simp);have h2:=M.kcnts_at (ks:=ks) (k:=1) (t:=u1) (by rw[hks];rfl);rw[hy0] at h1;omega
     have hwz:z.2.2.length<=U+50*(1+M.kcnts ks):=by
      have h1:=HWV.out u2 (by rw[hks];simp);have h2:=M.kcnts_at (ks:=ks) (k:=2) (t:=u2) (by rw[hks];rfl);rw[hz0] at h1;omega
     rw[hx0] at hs0 hLL;rw[hy0,hz0] at hLL;subst hLL;obtain rfl:vn=3:=HVC.out.1;have HE:=hid (show X=if M.vHolds x=true then y else z by rw[HXE.out,if_pos rfl];rfl);obtain⟨ad,N1,nn1,nc1,rfl,⟨c0,c1,c2⟩,hvx⟩:=HV.out.at0 (x:=x) rfl;obtain⟨N2,nn2,nc2,⟨d0,d1,d2⟩,hvy⟩:=HV.out.at1 (k:=1) (m:=3) rfl (by decide) (x:=y) rfl;obtain⟨N3,nn3,nc3,⟨e0,e1,e2⟩,hvz⟩:=HV.out.at1 (k:=2) (m:=6) rfl (by decide) (x:=z) rfl;have HC:=hid (show Calls Tryz.prog 51 #[vv x.1 x.2.1 N1 nn1 nc1] w1 (GivesB w1 (M.vHolds x)) from M.vHolds_yes hs0▸xYes_n ⟨N1,nn1,nc1,rfl,hvx⟩);have HY:=hid (show IsVl w1 y (vv y.1 y.2.1 N2 nn2 nc2) from⟨N2,nn2,nc2,rfl,hvy⟩);have HZ:=hid (show IsVl w1 z (vv z.1 z.2.1 N3 nn3 nc3) from⟨N3,nn3,nc3,rfl,hvz⟩);have HWY:=hid hwy;have HWZ:=hid hwz;obtain⟨q,hq⟩:∃q,M.vHolds x=q:=⟨_,rfl⟩;rw[hq] at HE HC;have HD:=hid (And.intro d0 (And.intro d1 d2));have HF:=hid (And.intro e0 (And.intro e1 e2));clear HXE ha hck hsk h5 h22 hl3 HLL HLV HWV HH HKI HV HVC hks hs0 hx0 hy0 hz0 hwy hwz hq hvx hvy hvz d0 d1 d2 e0 e1 e2;go_wp2_with fail
     refine HC.out.mono ?_;rintro e w3 ⟨rfl,hb⟩;have E2:=hid (E1.out.trans hb);have HB:=hid (HB1'.out.up hb);replace HY:=hid (HY.out.up hb);replace HZ:=hid (HZ.out.up hb);replace HD:=hid (And.intro (hb.cell HD.out.1) (And.intro (hb.cell HD.out.2.1) (hb.cell HD.out.2.2)));replace HF:=hid (And.intro (hb.cell HF.out.1) (And.intro (hb.cell HF.out.2.1) (hb.cell HF.out.2.2)));clear hb HC b0 b1 b2 b3 b4 b5 c0 c1 c2;obtain⟨⟨r0,r1,r2⟩,⟨f0,f1,f2⟩,hz⟩:=box3v HB.out;cases q
     ·obtain⟨e0,e1,e2⟩:=HF.out;obtain⟨zs,zg,zl⟩:=z;obtain⟨ys,yg,yl⟩:=y;go_wp2_with fail
      refine bodyPost_ret (v:=vv zs zg N3 nn3 nc3) (by simp[results,Tryz.results49,go_sem,r0,r1,r2,hz]) rfl ?_;rw[HE.out];exact v_stored HB.out HZ.out HWZ.out E2.out HG.out
     ·obtain⟨d0,d1,d2⟩:=HD.out;obtain⟨zs,zg,zl⟩:=z;obtain⟨ys,yg,yl⟩:=y;go_wp2_with fail
      refine bodyPost_ret (v:=vv ys yg N2 nn2 nc2) (by simp[results,Tryz.results49,go_sem,r0,r1,r2,hz]) rfl ?_;rw[HE.out];exact v_stored HB.out HY.out HWY.out E2.out HG.out
    have hq12:(op==12)=false:=by simpa using h12
    by_cases hs2:13<=op/\op<=18
    ·have hs:s=2:=by rw[hsk];unfold M.kres;rw[if_pos (by omega)]
     subst hs;have HE:=hid (show X=M.vz 2 (M.mReck op (L.map M.cz)) by rw[HXE.out,if_neg h12,if_pos rfl]);have hpos:=M.kargs_pos ha;rw[HKN.out] at hpos;have hcan:∀x∈L,M.canV x:=by rw[<-HLV.out];exact M.evs_can HFI.out HKI.out
     have hwd:∀x∈L,x.2.2.length+50*k<=U+50*(1+M.kcnts ks):=fun x hx=>by
      rw[<-HLV.out] at hx;obtain⟨j,u,hu,hux⟩:=M.evs_mem hx;have h1:=HWV.out u (List.mem_of_getElem? hu);have h2:=M.kcnts_at' hu;rw[hux] at h1;have h4:=HKN.out;omega
     have h400:=H400.out;have hkl:=HKL.out;rw[HKN.out] at hkl;have HC:=hid (show ∀w',Ext w1 w'->Calls Tryz.prog 87 #[.int .i64 op,.slice VA vn vc] w' (GivesZ w' (M.mReck op (L.map M.cz)) (U+50*(1+M.kcnts ks))) from fun w' e=>by
      have hv:=HV.out.up e
      by_cases hsum:(op=13/\1<=L.length)\/(op=14/\2<=L.length)
      ·refine(C.sum (W:=U+50*(1+M.kcnts ks)-50*k) (HLL.out.symm▸HPO.out) hv hcan (fun x hx=>by have:=hwd x hx;omega) (by omega) (by have:=HLL.out;omega) hsum).mono ?_;rintro e w'' ⟨v9,rfl,⟨a1,a2,a3,a4,a5,a6⟩,hx⟩;exact⟨v9,rfl,⟨a1,a2,a3,a4,a5,Nat.le_trans a6 (by have:=HLL.out;omega)⟩,hx⟩
      have hw1:∀{W1:Nat} {Z:Int} {w'':World} {e:Ending},W1<=U+50*(1+M.kcnts ks)->GivesZ w' Z W1 e w''->GivesZ w' Z (U+50*(1+M.kcnts ks)) e w'':=fun hle ⟨v9,h0,⟨a1,a2,a3,a4,a5,a6⟩,hx⟩=>⟨v9,h0,⟨a1,a2,a3,a4,a5,Nat.le_trans a6 hle⟩,hx⟩
      by_cases hone:op=14\/op=18
      ·obtain⟨x,r,hxr⟩:∃x r,L=x::r:=by
        have h1:=HLL.out;cases L with
        | nil=>simp at h1;omega
        | cons x r=>exact⟨x,r,rfl⟩
       subst hxr;have hx1:=hwd x (List.mem_cons_self ..);rcases hone with rfl|rfl
       ·have hr:r=[]:=by
         cases r with
         | nil=>rfl
         | cons y q=>exact absurd (.inr ⟨rfl,by simp⟩) hsum
        subst hr;exact(C.neg (W:=x.2.2.length) (by have h:=HPO.out;rw[<-HLL.out] at h;exact h) hv (hcan x (List.mem_cons_self ..)) (Nat.le_refl _)).mono fun e w'' h=>hw1 (by omega) h
       ·exact(C.abs (W:=x.2.2.length) (HLL.out.symm▸HPO.out) hv (hcan x (List.mem_cons_self ..)) (Nat.le_refl _)).mono fun e w'' h=>hw1 (by omega) h
      have ho:op=15\/op=16\/op=17:=by
       rcases Nat.lt_or_ge 0 L.length with h0|h0
       ·have:op≠13:=fun e=>hsum (.inl ⟨e,h0⟩);omega
       ·have:=HLL.out;omega
      have h2:=M.kargs_two ha (by omega);obtain⟨u,u2,hks⟩:=M.two_of h2;have hLL:L=[M.ev m u,M.ev m u2]:=by rw[<-HLV.out,M.evs_map,hks];rfl
      have wu:=HWV.out u (by rw[hks];simp);have wu2:=HWV.out u2 (by rw[hks];simp);have hki:=HKI.out;have hkf:=HF3.out;have hkc:M.kcnts ks=M.kcnt u+M.kcnt u2:=by rw[hks];simp only[M.kcnts];omega
      rw[hks,M.kiss,M.kiss,Bool.and_eq_true,Bool.and_eq_true] at hki;rw[hks,M.kfews,M.kfews,Bool.and_eq_true,Bool.and_eq_true] at hkf;rw[hks] at hck;subst hLL;have hcx:=hcan (M.ev m u) (by simp);rcases ho with rfl|rfl|rfl
      ·refine(C.mul (by have h:=HPO.out;rw[<-HLL.out] at h;exact h) hv hcx (Nat.le_refl _) (Nat.le_refl _) ⟨by omega,by omega⟩).mono fun e w'' h=>hw1 ?_ h;have h5:=M.kcheck_lin hck;replace h5:(if (M.knum u).isNone&&(M.knum u2).isNone then (19:Int) else 0)=0:=h5;rcases hq:(M.knum u).isNone with _|_
       ·have:=M.knum_short (m:=m) hki.1 hkf.1 hq;omega
       ·rcases hq2:(M.knum u2).isNone with _|_
        ·have:=M.knum_short (m:=m) hki.2.1 hkf.2.1 hq2;omega
        ·rw[hq,hq2] at h5;simp at h5
      ·have:=M.knum_short (m:=m) hki.2.1 hkf.2.1 (M.lin_two hck (.inl rfl));exact(C.div (W:=(M.ev m u).2.2.length) (V:=40) (by have h:=HPO.out;rw[<-HLL.out] at h;exact h) hv hcx (Nat.le_refl _) this ⟨by omega,by omega⟩).mono fun e w'' h=>hw1 (by omega) h
      ·have:=M.knum_short (m:=m) hki.2.1 hkf.2.1 (M.lin_two hck (.inr rfl));exact(C.mod (W:=(M.ev m u).2.2.length) (V:=40) (by have h:=HPO.out;rw[<-HLL.out] at h;exact h) hv hcx (Nat.le_refl _) this ⟨by omega,by omega⟩).mono fun e w'' h=>hw1 (by omega) h)
     obtain⟨Z,hZ⟩:∃Z,M.mReck op (L.map M.cz)=Z:=⟨_,rfl⟩;rw[hZ] at HC HE;clear HXE ha hck hsk h5 h22 hpos hcan hwd h400 hkl hZ hs2 h12 HLL HLV HWV HH HKI HF3 HV HVC;go_wp2_with fail
     refine(HC.out _ (Ext.refl _)).mono ?_;rintro e w3 ⟨v3,rfl,⟨N3,n3,c3,rfl,hn3,hk3⟩,hb⟩;obtain⟨d3,hd3⟩:∃d,decide (Z<0)=d:=⟨_,rfl⟩;have HV3:=hid (show IsVl w3 (M.vz 2 Z) (vv 2 d3 N3 n3 c3) from⟨N3,n3,c3,by rw[<-hd3];rfl,hn3⟩);have HWX:=hid (show (M.vz 2 Z).2.2.length<=U+50*(1+M.kcnts ks) from hk3);have E3:=hid (E1.out.trans hb);have HB:=hid (HB1'.out.up hb);rw[hd3];clear hb HC hn3 hk3 hd3 b0 b1 b2 b3 b4 b5;obtain⟨⟨r0,r1,r2⟩,⟨f0,f1,f2⟩,hz⟩:=box3v HB.out;go_wp2_with fail
     refine bodyPost_ret (v:=vv 2 d3 N3 n3 c3) (by simp[results,Tryz.results49,go_sem,r0,r1,r2,hz]) rfl ?_;rw[HE.out];exact v_stored HB.out HV3.out HWX.out E3.out HG.out
    ·have hs:s=1:=by rw[hsk];unfold M.kres;rw[if_neg (by omega),if_neg h12]
     subst hs;have HE:=hid (show X=M.vTruth (M.mTold op L) by rw[HXE.out,if_neg h12,if_neg (by decide)]);have hl:∀n,ks.length=n->L.length=n:=fun n h=>by rw[HLL.out,<-HKN.out,h]
     have hcan:∀x∈L,M.canV x:=by rw[<-HLV.out];exact M.evs_can HFI.out HKI.out
     have hbo:(op=5\/op=6\/op=7\/op=8\/op=9)->∀x∈L,M.vIs x 1=true:=fun ho=>by rw[<-HLV.out];exact M.evs_bool HFI.out HKI.out hck ho
     have HC:=hid (show ∀w',Ext w1 w'->Calls Tryz.prog 88 #[.int .i64 op,.slice VA vn vc] w' (GivesB w' (M.mTold op L)) from fun w' e=>by
      have hv:=HV.out.up e
      by_cases o5:op=5
      ·subst o5;obtain⟨x,hx⟩:=M.one_of (hl _ (M.kargs_one ha (by omega)));subst hx;exact C.not_ (by have h:=HPO.out;rw[<-HLL.out] at h;exact h) hv (hbo (by omega) x (by simp))
      by_cases o6:op=6
      ·subst o6;exact C.and_ (HLL.out.symm▸HPO.out) hv (hbo (by omega))
      by_cases o7:op=7
      ·subst o7;exact C.or_ (HLL.out.symm▸HPO.out) hv (hbo (by omega))
      by_cases o11:op=11
      ·subst o11;exact C.dist (HLL.out.symm▸HPO.out) hv hcan
      obtain⟨x,y,hxy⟩:=M.two_of (hl _ (M.kargs_two ha (by omega)));subst hxy
      by_cases o8:op=8
      ·subst o8;exact C.xor (by have h:=HPO.out;rw[<-HLL.out] at h;exact h) hv (hbo (by omega) x (by simp)) (hbo (by omega) y (by simp))
      by_cases o9:op=9
      ·subst o9;exact C.imp (by have h:=HPO.out;rw[<-HLL.out] at h;exact h) hv (hbo (by omega) x (by simp)) (hbo (by omega) y (by simp))
      by_cases o10:op=10
      ·subst o10;exact C.eq (by have h:=HPO.out;rw[<-HLL.out] at h;exact h) hv (hcan x (by simp)) (hcan y (by simp))
      by_cases o19:op=19
      ·subst o19;exact C.c19 (by have h:=HPO.out;rw[<-HLL.out] at h;exact h) hv
      by_cases o20:op=20
      ·subst o20;exact C.c20 (by have h:=HPO.out;rw[<-HLL.out] at h;exact h) hv
      by_cases o21:op=21
      ·subst o21;exact C.c21 (by have h:=HPO.out;rw[<-HLL.out] at h;exact h) hv
      ·obtain rfl:op=22:=by omega
       exact C.c22 (by have h:=HPO.out;rw[<-HLL.out] at h;exact h) hv)
     obtain⟨q,hq⟩:∃q,M.mTold op L=q:=⟨_,rfl⟩;rw[hq] at HC HE;have HTR:=hid (fun w'=>xTruth_n q w');clear HXE ha hck hsk h5 h22 hl hcan hbo hq hs2 h12 HLL HLV HWV HH HKI HF3 HV HVC;go_wp2_with fail
     refine(HC.out _ (Ext.refl _)).mono ?_;rintro e w2 ⟨rfl,hb⟩;have E2:=hid (E1.out.trans hb);have HB:=hid (HB1'.out.up hb);clear hb HC b0 b1 b2 b3 b4 b5;go_wp2_with fail
     refine(HTR.out _).mono ?_;rintro e w3 ⟨v3,rfl,hv3,hb⟩;have HV3:=hid hv3;obtain⟨N3,n3,c3,rfl,-⟩:=hv3;have E3:=hid (E2.out.trans hb);replace HB:=hid (HB.out.up hb);have HWX:=hid (show (M.vTruth q).2.2.length<=U+50*(1+M.kcnts ks) by
      cases q
      ·exact Nat.zero_le _
      ·have:(M.vTruth true).2.2.length=1:=by decide +kernel
       omega)
     obtain⟨Y,hY⟩:∃Y,M.vTruth q=Y:=⟨_,rfl⟩;rw[hY] at HE HV3 HWX |-;clear hb HTR hY;obtain⟨⟨r0,r1,r2⟩,⟨f0,f1,f2⟩,hz⟩:=box3v HB.out;obtain⟨xs,xg,xl⟩:=Y;go_wp2_with fail
     refine bodyPost_ret (v:=vv xs xg N3 n3 c3) (by simp[results,Tryz.results49,go_sem,r0,r1,r2,hz]) rfl ?_;rw[HE.out];exact v_stored HB.out HV3.out HWX.out E3.out HG.out
set_option maxHeartbeats 8000000 in
theorem xEval_g {P:Int->Nat->Bool}(C:XTermC P){U:Nat}(hU:40<=U)(hU2:U<=70000){m:List M.Fn}{t:M.Tm}{mv v:Value}{w:World}(hP:M.allOp2 P t=true)(hm:FnList w m mv)(hnm:∀f∈m,f.sg.name.length<=1000000000000)(hwd:∀f∈m,M.fnWd U f)(ht:IsTm w t v)(hf:M.kfew t=true): Calls Tryz.prog 25 #[v,mv] w (GivesVW w (M.mEval m t) (U+50*M.kcnt t)):=by
 have HRI:=hid (show ∀w',Ext w w'->Calls Tryz.prog 22 #[v] w' (GivesB w' (M.kIs t)) from fun w' e=>rkIs_n t (ht.up e) hf);have HMY:=hid (show ∀w',Ext w w'->Calls Tryz.prog 50 #[mv] w' (fun e w''=>∃u,e=.returned u/\FnList w' (M.mRead m) u/\Ext w' w'') from fun w' e=>xMay_n (hm.up e) hnm);have HEV:=hid (show M.kIs t=true->∀w' u,Ext w w'->FnList w' (M.mRead m) u->Calls Tryz.prog 49 #[v,u] w' (GivesVW w' (M.ev (M.mRead m) t) (U+50*M.kcnt t)) from fun hk w' u e hu=>by
  unfold M.kIs at hk;rw[Bool.and_eq_true,decide_eq_true_iff] at hk;exact xeval_g C hU hU2 (M.kcnt t+1) (Nat.lt_succ_self _) hP hk.2 hk.1 hf ⟨hu,M.mRead_mIs m,fun f hf=>hnm f (M.mRead_mem hf),fun f hf=>hwd f (M.mRead_mem hf)⟩ (ht.up e))
 obtain⟨X,hX⟩:∃X,M.mEval m t=X:=⟨_,rfl⟩;rw[hX];have HX:=hid (show X=if M.kIs t=true then M.ev (M.mRead m) t else (1,false,[]) by rw[<-hX];rfl);obtain⟨q,hq⟩:∃q,M.kIs t=q:=⟨_,rfl⟩;rw[hq] at HRI HX HEV;obtain⟨MA,mc,rfl⟩:=hm.shape;obtain⟨mn,hmn⟩:∃n,m.length=n:=⟨_,rfl⟩;rw[hmn] at HMY |-;obtain⟨N,nn,nc,A,c,rfl,-,-⟩:=ht;obtain⟨o1,ho1⟩:∃o,t.op=o:=⟨_,rfl⟩;obtain⟨o2,ho2⟩:∃o,t.g=o:=⟨_,rfl⟩;obtain⟨o3,ho3⟩:∃o,t.name=o:=⟨_,rfl⟩;obtain⟨o4,ho4⟩:∃o,t.sort=o:=⟨_,rfl⟩;obtain⟨o5,ho5⟩:∃o,t.kids.length=o:=⟨_,rfl⟩;rw[ho1,ho2,ho3,ho4,ho5] at HRI HEV |-;have HB0:=hid (show Box ((w.alloc (.cells #[.int .i64 o1,.bool o2,.slice N nn nc,str o3,.int .i64 o4,.slice A o5 c] 27)).alloc (.cells zero3v 45)) w.heap.size #[.int .i64 o1,.bool o2,.slice N nn nc,str o3,.int .i64 o4,.slice A o5 c] 27 from(Box.new w _ _).alloc _);have HB1:=hid (show Box ((w.alloc (.cells #[.int .i64 o1,.bool o2,.slice N nn nc,str o3,.int .i64 o4,.slice A o5 c] 27)).alloc (.cells zero3v 45)) (w.heap.size+1) zero3v 45 from Box.at_ (w:=w.alloc (.cells #[.int .i64 o1,.bool o2,.slice N nn nc,str o3,.int .i64 o4,.slice A o5 c] 27)) _ _ (by simp));have E0:=hid (alloc_two w (.cells #[.int .i64 o1,.bool o2,.slice N nn nc,str o3,.int .i64 o4,.slice A o5 c] 27) (.cells zero3v 45));clear hP hm hf hX hq hmn ho1 ho2 ho3 ho4 ho5 hnm hwd;go_enter Tryz.func25,Tryz.ntmps25
 go_upto_region 1 with (fail)
 refine vwp_at (fun W=>Box W w.heap.size #[.int .i64 o1,.bool o2,.slice N nn nc,str o3,.int .i64 o4,.slice A o5 c] 27/\Box W (w.heap.size+1) zero3v 45/\Ext w W) ⟨HB0.out,HB1.out,E0.out⟩ ?_;clear HB0 HB1 E0;intro W ⟨hb0,hb1,he⟩;obtain⟨g0,hg0⟩:∃g,w.heap.size=g:=⟨_,rfl⟩;have HG:=hid (show w.heap.size<=g0+1 by omega);rw[hg0] at hb0 hb1 |-;have HB0:=hid hb0;have HB1:=hid hb1;have E:=hid he;clear hb0 hb1 he hg0;obtain⟨⟨b0,b1,b2,b3,b4,b5⟩,-,-⟩:=boxF6 HB0.out;go_wp2_with fail
 refine(HRI.out _ E.out).mono ?_;rintro e w1 ⟨rfl,hx⟩;replace E:=hid (E.out.trans hx);replace HB0:=hid (HB0.out.up hx);replace HB1:=hid (HB1.out.up hx);clear hx b0 b1 b2 b3 b4 b5 HRI;cases q
 ·have HE:=hid (show X=(1,false,[]) by rw[HX.out];rfl);clear HX HEV HMY;obtain⟨⟨r0,r1,r2⟩,⟨f0,f1,f2⟩,hz⟩:=box3v HB1.out;go_wp2_with fail
  refine bodyPost_ret (v:=vv 1 false none 0 0) (by simp[results,Tryz.results25,go_sem,r0,r1,r2,hz]) rfl ?_;rw[HE.out];exact v_stored HB1.out ⟨none,0,0,rfl,LNum.nil _⟩ (Nat.zero_le _) E.out HG.out
 ·have HE:=hid (show X=M.ev (M.mRead m) t by rw[HX.out,if_pos rfl]);replace HEV:=hid (HEV.out rfl);rw[<-HE.out] at HEV;clear HX;go_upto_region 3 with (fail)
  refine wp_region_D [(0,0),(1,0),(2,1),(3,1),(4,4)] fun wd hb=>?_;replace E:=hid (E.out.trans hb);replace HB0:=hid (HB0.out.up hb);replace HB1:=hid (HB1.out.up hb);clear hb;refine WE.q 9 (kv o1 o2 N nn nc o3 o4 A o5 c) rfl (fun w' hk=>by obtain⟨⟨x0,x1,x2,x3,x4,x5⟩,-,-⟩:=boxF6 (HB0.out.up hk);go_simp) ?_;simp only[pX];refine WE.p 10 (.slice MA mn mc) ?_;simp only[pX];refine WE.c 11 ((HMY.out _ E.out).mono ?_);rintro e w2 ⟨u2,rfl,hu2,hb⟩;refine⟨_,rfl,hb,?_⟩;have HC:=hid (HEV.out _ u2 (E.out.trans hb) (hu2.up hb));obtain⟨UA,uc,rfl⟩:=hu2.shape;replace E:=hid (E.out.trans hb);replace HB1:=hid (HB1.out.up hb);obtain⟨un,hun⟩:∃n,(M.mRead m).length=n:=⟨_,rfl⟩;rw[hun] at HC |-;clear hb hu2 HMY HEV hun;simp only[pX];refine WE.c 12 (HC.out.mono ?_);rintro e w3 ⟨v3,rfl,hv3,hb,hwd⟩;refine⟨_,rfl,hb,?_⟩;have HV3:=hid hv3;obtain⟨N3,n3,c3,rfl,-⟩:=hv3;replace E:=hid (E.out.trans hb);replace HB1:=hid (HB1.out.up hb);have HWX:=hid hwd;clear hb HC hwd;obtain⟨⟨r0,r1,r2⟩,⟨f0,f1,f2⟩,hz⟩:=box3v HB1.out;obtain⟨xs,xg,xl⟩:=X;simp only[pX];refine WE.store (w':=put3v w3 (g0+1) (.int .i64 xs) (.bool xg) (.slice N3 n3 c3)) rfl rfl (by rfl) (by go_simp) (by simp) ?_;refine WE.done ?_;have HP:=hid (show GivesVW w (xs,xg,xl) (U+50*M.kcnt t) (.returned (vv xs xg N3 n3 c3)) (put3v w3 (g0+1) (.int .i64 xs) (.bool xg) (.slice N3 n3 c3)) from v_stored HB1.out HV3.out HWX.out E.out HG.out);have hB2:Box (put3v w3 (g0+1) (.int .i64 xs) (.bool xg) (.slice N3 n3 c3)) (g0+1) #[.int .i64 xs,.bool xg,.slice N3 n3 c3] 45:=((HB1.out.setAt 0 _).setAt 1 _).setAt 2 _;obtain⟨W3,hW3⟩:∃W3,W3=put3v w3 (g0+1) (.int .i64 xs) (.bool xg) (.slice N3 n3 c3):=⟨_,rfl⟩;rw[<-hW3] at HP hB2 |-;clear hW3 r0 r1 r2 f0 f1 f2 hz;obtain⟨⟨r0,r1,r2⟩,-,hz⟩:=box3v hB2;go_wp2_with fail
  exact bodyPost_ret (v:=vv xs xg N3 n3 c3) (by simp[results,Tryz.results25,go_sem,r0,r1,r2,hz]) rfl HP.out
end Go.Proofs.YtoenjbkmiphhoaaGreatDoor.Q
