/-
  Layer 13: where the new constants are as they are meant, what is to hold does, and terms are worth the same, mathematics.
-/
import Derived.Test.YtoenjbkmiphhoaaGreatDoorA33
import Derived.Test.YtoenjbkmiphhoaaGreatDoorA09
namespace Go.Proofs.YtoenjbkmiphhoaaGreatDoor.Q
set_option linter.unusedSimpArgs false
set_option linter.unusedVariables false
open Go.RowKit
namespace M
theorem dec_nil (n:Nat): Go.Lib.decDigits n≠[]:=by
 by_cases h:n<10
 ·rw[M.dec_small h];simp
 ·rw[M.dec_big h];simp
theorem dec_inj:∀(a b:Nat),Go.Lib.decDigits a=Go.Lib.decDigits b→a=b:=by
 intro a
 induction a using Nat.strongRecOn with
 | _ a ih=>
  intro b h;have hd:∀x y:Nat,x<10→y<10→UInt8.ofNat (48+x)=UInt8.ofNat (48+y)→x=y:=fun x y hx hy e=>by
   have:=congrArg UInt8.toNat e;simp at this;omega
  by_cases ha:a<10
  ·by_cases hb:b<10
   ·rw[M.dec_small ha,M.dec_small hb] at h;exact hd a b ha hb (List.cons.inj h).1
   ·rw[M.dec_small ha,M.dec_big hb] at h;have h2:=congrArg List.length h;have h3:=List.length_pos_iff.2 (dec_nil (b/10));simp at h2;exact absurd h2 (dec_nil (b/10))
  ·by_cases hb:b<10
   ·rw[M.dec_big ha,M.dec_small hb] at h;have h2:=congrArg List.length h;have h3:=List.length_pos_iff.2 (dec_nil (a/10));simp at h2;exact absurd h2 (dec_nil (a/10))
   ·rw[M.dec_big ha,M.dec_big hb] at h;obtain⟨h1,h2⟩:=List.append_inj' h rfl;have e1:=ih (a/10) (by omega) (b/10) h1;have e2:=hd (a%10) (b%10) (by omega) (by omega) (List.cons.inj h2).1;omega
theorem frName_inj {a b:Int}(ha:0≤a)(hb:0≤b)(h:frName a=frName b): a=b:=by
 unfold frName at h;rw[Int.max_eq_right ha,Int.max_eq_right hb] at h;have h2:=(List.cons.inj h).2;have:=dec_inj _ _ h2;omega
def NL (N:Int)(t:Tm): Prop:=∀nm,kHas nm t=true→nm.head?≠some 33∨∃j,0≤j∧j<N∧nm=frName j
def noBang (t:Tm): Prop:=∀nm,kHas nm t=true→nm.head?≠some 33
theorem noBang.nl {t:Tm}(h:noBang t)(N:Int): NL N t:=fun nm hn=>.inl (h nm hn)
theorem NL.mono {t:Tm}{N N':Int}(h:NL N t)(hN:N≤N'): NL N' t:=fun nm hn=>(h nm hn).imp id fun⟨j,h1,h2,h3⟩=>⟨j,h1,Int.lt_of_lt_of_le h2 hN,h3⟩
theorem NL.no {t:Tm}{N n:Int}(h:NL N t)(h0:0≤n)(hn:N≤n): kHas (frName n) t=false:=by
 rcases hq:kHas (frName n) t with _|_
 ·rfl
 ·rcases h _ hq with h1|⟨j,h1,h2,h3⟩
  ·exact absurd rfl h1
  ·have:=frName_inj h0 h1 h3;omega
theorem kHass_of {nm:List UInt8}: ∀{l:List Tm},kHass nm l=true→∃(k:Nat) (t:Tm),l[k]?=some t∧kHas nm t=true
 | [],h=>by rw[kHass] at h;cases h
 | t::r,h=>by
  rw[kHass,Bool.or_eq_true] at h;rcases h with h|h
  ·exact⟨0,t,rfl,h⟩
  ·obtain⟨k,u,hu,hh⟩:=kHass_of h;exact⟨k+1,u,by simpa using hu,hh⟩
theorem kHas_in {nm:List UInt8}{op:Int}{g:Bool}{ls:List Nat}{n:List UInt8}{s:Int}{ks:List Tm}{k:Nat}{t:Tm}(e:ks[k]?=some t)(h:kHas nm t=true): kHas nm (.mk op g ls n s ks)=true:=by
 rcases hq:kHas nm (.mk op g ls n s ks) with _|_
 ·rw[kHas_kid hq e] at h;cases h
 ·rfl
theorem noBang.kid {op:Int}{g:Bool}{ls:List Nat}{n:List UInt8}{s:Int}{ks:List Tm}{k:Nat}{t:Tm}(h:noBang (.mk op g ls n s ks))(e:ks[k]?=some t): noBang t:=fun nm hn=>h nm (kHas_in e hn)
theorem NL.kid {N:Int}{op:Int}{g:Bool}{ls:List Nat}{n:List UInt8}{s:Int}{ks:List Tm}{k:Nat}{t:Tm}(h:NL N (.mk op g ls n s ks))(e:ks[k]?=some t): NL N t:=fun nm hn=>h nm (kHas_in e hn)
theorem NL.mk_ {N:Int}{op:Int}{g:Bool}{ls:List Nat}{n:List UInt8}{s:Int}{us ks:List Tm}(h:noBang (.mk op g ls n s ks))(hu:∀(k:Nat) (u:Tm),us[k]?=some u→NL N u): NL N (.mk op g ls n s us):=by
 intro nm hn;rw[kHas,Bool.or_eq_true] at hn;rcases hn with hn|hn
 ·refine .inl (h nm ?_);rw[kHas,hn,Bool.true_or]
 ·obtain⟨k,u,hk,hh⟩:=kHass_of hn;exact hu k u hk nm hh
theorem NL.made {N:Int}{op:Int}{l:List Tm}(he:(kmake op l).2=0)(hl:∀(k:Nat) (u:Tm),l[k]?=some u→NL N u): NL N (kmake op l).1:=by
 obtain⟨h1,h2,ha,hi,hc⟩:=kmake_ok he;rw[(mk_is h1 h2 ha hi hc).1];intro nm hn;replace hn:kHas nm (.mk op false [] [] (kres op l) l)=true:=hn;rw[kHas,Bool.or_eq_true] at hn;rcases hn with hn|hn
 ·rw[Bool.and_eq_true] at hn;have h5:=of_decide_eq_true hn.1;omega
 ·obtain⟨k,u,hk,hh⟩:=kHass_of hn;exact hl k u hk nm hh
theorem NL.fr {n N s:Int}(h0:0≤n)(hn:n<N): NL N (frT n s):=by
 intro nm h;unfold frT at h;rw[kHas,Bool.or_eq_true] at h;rcases h with h|h
 ·rw[Bool.and_eq_true] at h;exact .inr ⟨n,h0,hn,(of_decide_eq_true h.2).symm⟩
 ·rw[kHass] at h;cases h
theorem NL.num (N Z:Int): NL N (knumT Z):=by
 intro nm h;unfold knumT at h;rw[kHas,Bool.or_eq_true] at h;rcases h with h|h
 ·rw[Bool.and_eq_true] at h;exact absurd (of_decide_eq_true h.1) (by decide)
 ·rw[kHass] at h;cases h
theorem put_is {nm:List UInt8}{m:List Fn}{v:Vl}(hm:mIs m=true)(hs:ksig ⟨nm,[],v.1⟩=true)(hv:vIs v v.1=true): mIs (mPut m ⟨⟨nm,[],v.1⟩,[],v⟩)=true:=by
 obtain⟨T,D,P⟩:=parts_of nm hm;rw[P.put (f:=⟨⟨nm,[],v.1⟩,[],v⟩) rfl];refine mIs_of (P.asc (f:=⟨⟨nm,[],v.1⟩,[],v⟩) rfl) fun k f hk=>?_;rcases List.mem_append.1 (List.mem_of_getElem? hk) with hf|hf
 ·obtain⟨j,hj⟩:=List.getElem?_of_mem (P.mem (List.mem_append_left _ hf)).1;exact mIs_fn hm hj
 ·rcases List.mem_cons.1 hf with rfl|hf
  ·unfold fnIs;rw[show ksig (⟨⟨nm,[],v.1⟩,[],v⟩:Fn).sg=true from hs,show vIs (⟨⟨nm,[],v.1⟩,[],v⟩:Fn).els (⟨⟨nm,[],v.1⟩,[],v⟩:Fn).sg.ret=true from hv];rfl
  ·obtain⟨j,hj⟩:=List.getElem?_of_mem (P.mem (List.mem_append_right _ hf)).1;exact mIs_fn hm hj
theorem put_ev {nm:List UInt8}{m:List Fn}{v:Vl}(hm:mIs m=true){t:Tm}(h:kHas nm t=false): ev (mPut m ⟨⟨nm,[],v.1⟩,[],v⟩) t=ev m t:=by
 obtain⟨T,D,P⟩:=parts_of nm hm;rw[P.put (f:=⟨⟨nm,[],v.1⟩,[],v⟩) rfl];exact ev_put P rfl t h
theorem put_get {nm:List UInt8}{m:List Fn}{v:Vl}(hm:mIs m=true): ev (mPut m ⟨⟨nm,[],v.1⟩,[],v⟩) (.mk 4 false [] nm v.1 [])=v:=by
 obtain⟨T,D,P⟩:=parts_of nm hm;rw[P.put (f:=⟨⟨nm,[],v.1⟩,[],v⟩) rfl,ev,if_neg (by decide),if_neg (by decide),if_neg (by decide),if_pos rfl,evs];show mOf _ ⟨nm,[],v.1⟩ []=v;have hx:(T++(⟨⟨nm,[],v.1⟩,[],v⟩:Fn)::D)[T.length]?=some ⟨⟨nm,[],v.1⟩,[],v⟩:=by
  rw[List.getElem?_append_right (Nat.le_refl _),Nat.sub_self];rfl
 rw[mOf_at (s:=⟨nm,[],v.1⟩) [] (P.asc rfl) hx rfl,if_pos rfl];rfl
def GrowOk (t u:Tm)(st st':PS): Prop:=
 st.next≤st'.next∧mIs st'.m=true∧(∀t',NL st.next t'→ev st'.m t'=ev st.m t')∧NL st'.next u∧ev st'.m u=ev st.m t∧∃D,st'.defs=st.defs++D∧∀d∈D,NL st'.next d∧isTrue st'.m d
theorem mRead_is {m:List Fn}(h:mIs m=true): mRead m=m:=by unfold mRead;rw[if_pos h]
theorem mEval_is' {m:List Fn}{t:Tm}(hm:mIs m=true)(h:kIs t=true): mEval m t=ev m t:=by rw[mEval_ev h,mRead_is hm]
theorem fr_sig {n s:Int}(h:kIs (frT n s)=true): ksig ⟨frName n,[],s⟩=true:=by
 have h2:=(kIs_parts h).2;unfold frT at h2;rw[kis_mk,Bool.and_eq_true] at h2;have hh:=h2.2;unfold khead at hh;rw[if_neg (by decide),if_neg (by decide),if_pos rfl] at hh;simp only[Bool.and_eq_true,decide_eq_true_eq] at hh;unfold ksig;simp only[List.all_nil,Bool.true_and,Bool.and_eq_true,decide_eq_true_eq];exact⟨hh.2.1,by simp,hh.2.2.2⟩
theorem fn_of {m:List Fn}(hm:mIs m=true): ∀f∈m,fnIs f=true:=fun f hf=>by
 obtain⟨k,hk⟩:=List.getElem?_of_mem hf;exact mIs_fn hm hk
theorem new_grow {st:PS}{out:Tm}{l:List Tm}{e:Bool}(hm:mIs st.m=true)(h0:0≤st.next)(ho:kIs out=true)(hs:out.sort=2)(hv:kIs (frT st.next 2)=true):
 ∃m2,(psDefs (psNew st (mEval st.m out)) l e).m=m2∧mIs m2=true∧(∀t',NL st.next t'→ev m2 t'=ev st.m t')∧ev m2 (frT st.next 2)=ev st.m out:=by
 have hx:mEval st.m out=ev st.m out:=mEval_is' hm ho;have hi:vIs (ev st.m out) 2=true:=hs▸ev_is (fn_of hm) out (kIs_parts ho).2;obtain⟨h1,-⟩:=vIs_two hi;refine⟨_,rfl,?_,fun t' ht=>?_,?_⟩
 ·show mIs (mPut (mRead st.m) ⟨⟨frName st.next,[],(mEval st.m out).1⟩,[],mEval st.m out⟩)=true;rw[mRead_is hm,hx];exact put_is hm (by rw[h1];exact fr_sig hv) (by rw[h1];exact hi)
 ·show ev (mPut (mRead st.m) ⟨⟨frName st.next,[],(mEval st.m out).1⟩,[],mEval st.m out⟩) t'=_;rw[mRead_is hm];exact put_ev hm (ht.no h0 (Int.le_refl _))
 ·show ev (mPut (mRead st.m) ⟨⟨frName st.next,[],(mEval st.m out).1⟩,[],mEval st.m out⟩) (frT st.next 2)=_;rw[mRead_is hm,hx];have h2:=put_get (nm:=frName st.next) (v:=ev st.m out) hm;rw[h1] at h2;unfold frT;rw[h1];exact h2
theorem act1_grow {st:PS}{out:Tm}(hm:mIs st.m=true)(h0:0≤st.next)(hst:st.bad=false)(hb:(act1 out st).2.bad=false)(hk:kis out=true)(hc:kcnt out≤400)(hn:NL st.next out): GrowOk out (act1 out st).1 st (act1 out st).2:=by
 have ho:kIs out=true:=by unfold kIs;rw[decide_eq_true hc,hk];rfl
 obtain⟨op,g,ls,nm,s,ks⟩:=out
 by_cases h12:op=12∧s=2
 ·obtain⟨rfl,rfl⟩:=h12;have hh:=hk;rw[kis_mk,Bool.and_eq_true] at hh;obtain⟨-,-,hargs,hcheck,hres⟩:=khead_op hh.2 (by decide) (by decide) (by decide) (by decide);obtain⟨c,a,b,rfl⟩:=three_of (kargs_three hargs);unfold act1 at hb ⊢;rw[if_pos (show (Tm.mk 12 g ls nm 2 [c,a,b]).op=12∧(Tm.mk 12 g ls nm 2 [c,a,b]).sort=2 from⟨rfl,rfl⟩)] at hb ⊢;replace hb:(st.bad||(iteDefs (frT st.next 2) c a b).2)=false:=hb;obtain⟨-,hb2⟩:=bad_or hb;unfold iteDefs at hb2;obtain⟨hb2,e5⟩:=bad_or hb2;obtain⟨hb2,e4⟩:=bad_or hb2;obtain⟨hb2,e3⟩:=bad_or hb2;obtain⟨e1,e2⟩:=bad_or hb2;replace e1:=no_err e1;replace e2:=no_err e2;replace e3:=no_err e3;replace e4:=no_err e4;replace e5:=no_err e5;obtain⟨-,-,-,l2,-⟩:=kmake_ok e2;obtain⟨-,-,-,l4,-⟩:=kmake_ok e4;obtain⟨-,-,-,l1,-⟩:=kmake_ok e1;have hv:kIs (frT st.next 2)=true:=kIss_get l2 (k:=0) rfl;have ha:kIs a=true:=kIss_get l2 (k:=1) rfl;have hbb:kIs b=true:=kIss_get l4 (k:=1) rfl;have hcc:kIs c=true:=kIss_get l1 (k:=0) rfl;obtain⟨m2,hm2,i2,hev,hget⟩:=new_grow (l:=(iteDefs (frT st.next 2) c a b).1) (e:=(iteDefs (frT st.next 2) c a b).2) hm h0 ho rfl hv;have nc:NL st.next c:=hn.kid (k:=0) rfl;have na:NL st.next a:=hn.kid (k:=1) rfl;have nb:NL st.next b:=hn.kid (k:=2) rfl;have up:∀{t'},NL st.next t'→NL (st.next+1) t':=fun h=>h.mono (by omega);have nv:NL (st.next+1) (frT st.next 2):=NL.fr h0 (by omega);have hval:ev st.m (.mk 12 g ls nm 2 [c,a,b])=if vHolds (ev st.m c)=true then ev st.m a else ev st.m b:=by
   rw[ev.eq_def st.m (.mk 12 g ls nm 2 [c,a,b])];simp only[show ¬((12:Int)=1) by decide,show ¬((12:Int)=2) by decide,show ¬((12:Int)=3) by decide,show ¬((12:Int)=4) by decide,if_false,if_true,evs,List.getD_cons_zero,List.getD_cons_succ]
  show GrowOk (.mk 12 g ls nm 2 [c,a,b]) (frT st.next 2) st (psDefs (psNew st (mEval st.m (.mk 12 g ls nm 2 [c,a,b]))) (iteDefs (frT st.next 2) c a b).1 (iteDefs (frT st.next 2) c a b).2);refine⟨by show st.next≤st.next+1;omega,hm2.symm▸i2,fun t' ht=>by rw[hm2];exact hev t' ht,nv,by rw[hm2];exact hget,(iteDefs (frT st.next 2) c a b).1,rfl,fun d hd=>?_⟩;rw[hm2];have hd':d=(kmake 7 [(kmake 5 [c]).1,(kmake 10 [frT st.next 2,a]).1]).1∨d=(kmake 7 [c,(kmake 10 [frT st.next 2,b]).1]).1:=by
   unfold iteDefs at hd;simpa using hd
  rcases hd' with rfl|rfl
  ·refine⟨NL.made e3 fun k u hu=>?_,?_⟩
   ·match k with
    | 0 => simp at hu; subst hu; exact NL.made e1 fun k u hu => by
            match k with
            | 0=>simp at hu;subst hu;exact up nc
            | k+1=>simp at hu
    | 1 => simp at hu; subst hu; exact NL.made e2 fun k u hu => by
            match k with
            | 0=>simp at hu;subst hu;exact nv
            | 1=>simp at hu;subst hu;exact up na
            | k+2=>simp at hu
    | k+2=>simp at hu
   ·unfold isTrue;rw[eval_or m2 e3,eval_not m2 e1,eval_eq m2 e2,vHolds_truth,vHolds_truth,mEval_is' i2 hcc,mEval_is' i2 hv,mEval_is' i2 ha,hev c nc,hev a na,hget,hval];cases vHolds (ev st.m c)
    ·rw[Bool.not_false,Bool.true_or];exact vSame_refl _
    ·rw[if_pos rfl,vSame_refl,Bool.or_true];exact vSame_refl _
  ·refine⟨NL.made e5 fun k u hu=>?_,?_⟩
   ·match k with
    | 0=>simp at hu;subst hu;exact up nc
    | 1 => simp at hu; subst hu; exact NL.made e4 fun k u hu => by
            match k with
            | 0=>simp at hu;subst hu;exact nv
            | 1=>simp at hu;subst hu;exact up nb
            | k+2=>simp at hu
    | k+2=>simp at hu
   ·unfold isTrue;rw[eval_or m2 e5,eval_eq m2 e4,vHolds_truth,mEval_is' i2 hcc,mEval_is' i2 hv,mEval_is' i2 hbb,hev c nc,hev b nb,hget,hval];cases vHolds (ev st.m c)
    ·rw[if_neg (by decide),vSame_refl,Bool.or_true];exact vSame_refl _
    ·rw[Bool.true_or];exact vSame_refl _
 ·by_cases h18:op=18
  ·subst h18;have hh:=hk;rw[kis_mk,Bool.and_eq_true] at hh;obtain⟨-,-,hargs,hcheck,hres⟩:=khead_op hh.2 (by decide) (by decide) (by decide) (by decide);obtain⟨a,rfl⟩:=one_of (kargs_one hargs (.inr rfl));have hs2:s=2:=by rw[hres];exact kres_two (by decide)
   subst hs2;unfold act1 at hb ⊢;rw[if_neg (show ¬((Tm.mk 18 g ls nm 2 [a]).op=12∧(Tm.mk 18 g ls nm 2 [a]).sort=2) from h12),if_pos (show (Tm.mk 18 g ls nm 2 [a]).op=18 from rfl)] at hb ⊢;replace hb:(st.bad||(absDefs (frT st.next 2) a).2)=false:=hb;obtain⟨-,hb2⟩:=bad_or hb;unfold absDefs at hb2;obtain⟨hb2,e7⟩:=bad_or hb2;obtain⟨hb2,e6⟩:=bad_or hb2;obtain⟨hb2,e5⟩:=bad_or hb2;obtain⟨hb2,e4⟩:=bad_or hb2;obtain⟨hb2,e3⟩:=bad_or hb2;obtain⟨e1,e2⟩:=bad_or hb2;replace e1:=no_err e1;replace e2:=no_err e2;replace e3:=no_err e3;replace e4:=no_err e4;replace e5:=no_err e5;replace e6:=no_err e6;replace e7:=no_err e7;obtain⟨-,-,-,l2,-⟩:=kmake_ok e2;have hv:kIs (frT st.next 2)=true:=kIss_get l2 (k:=0) rfl;have ha:kIs a=true:=kIss_get l2 (k:=1) rfl;have hsa:a.sort=2:=by
    unfold kcheck at hcheck
    split at hcheck
    ·simp at hcheck
    ·rename_i hq
     have hq':ksorted 18 [a]=true:=by simpa using hq
     unfold ksorted kall at hq';rw[if_neg (by decide),if_neg (by decide),if_neg (by decide)] at hq';simpa using hq'
   obtain⟨m2,hm2,i2,hev,hget⟩:=new_grow (l:=(absDefs (frT st.next 2) a).1) (e:=(absDefs (frT st.next 2) a).2) hm h0 ho rfl hv;have na:NL st.next a:=hn.kid (k:=0) rfl;have up:∀{t'},NL st.next t'→NL (st.next+1) t':=fun h=>h.mono (by omega);have nv:NL (st.next+1) (frT st.next 2):=NL.fr h0 (by omega);have n0:NL (st.next+1) (knumT 0):=NL.num _ 0;have hval:ev st.m (.mk 18 g ls nm 2 [a])=vz 2 ((cz (ev st.m a)).natAbs:Int):=by
    rw[ev.eq_def st.m (.mk 18 g ls nm 2 [a])];simp only[show ¬((18:Int)=1) by decide,show ¬((18:Int)=2) by decide,show ¬((18:Int)=3) by decide,show ¬((18:Int)=4) by decide,show ¬((18:Int)=12) by decide,if_false,if_true,evs,List.map_cons,List.map_nil];rfl
   have ia:vIs (ev st.m a) 2=true:=hsa▸ev_is (fn_of hm) a (kIs_parts ha).2;obtain⟨A,hA⟩:∃A,cz (ev st.m a)=A:=⟨_,rfl⟩;have hav:ev st.m a=vz 2 A:=by rw[←hA];exact vIs_eq ia
   have pair:∀{u v:Tm},NL (st.next+1) u→NL (st.next+1) v→∀(k:Nat) (t:Tm),[u,v][k]?=some t→NL (st.next+1) t:=fun hu hv k t ht=>by
    match k with
    | 0=>simp at ht;subst ht;exact hu
    | 1=>simp at ht;subst ht;exact hv
    | k+2=>simp at ht
   have n5:NL (st.next+1) (kmake 14 [a]).1:=NL.made e5 fun k u hu=>by
    match k with
    | 0=>simp at hu;subst hu;exact up na
    | k+1=>simp at hu
   show GrowOk (.mk 18 g ls nm 2 [a]) (frT st.next 2) st (psDefs (psNew st (mEval st.m (.mk 18 g ls nm 2 [a]))) (absDefs (frT st.next 2) a).1 (absDefs (frT st.next 2) a).2);refine⟨by show st.next≤st.next+1;omega,hm2.symm▸i2,fun t' ht=>by rw[hm2];exact hev t' ht,nv,by rw[hm2];exact hget,(absDefs (frT st.next 2) a).1,rfl,fun d hd=>?_⟩;rw[hm2];have hd':d=(kmake 7 [(kmake 20 [a,knumT 0]).1,(kmake 10 [frT st.next 2,a]).1]).1∨d=(kmake 7 [(kmake 21 [a,knumT 0]).1,(kmake 10 [frT st.next 2,(kmake 14 [a]).1]).1]).1:=by
    unfold absDefs at hd;simpa using hd
   rcases hd' with rfl|rfl
   ·refine⟨NL.made e3 (pair (NL.made e1 (pair (up na) n0)) (NL.made e2 (pair nv (up na)))),?_⟩;unfold isTrue;rw[eval_or m2 e3,eval_lt m2 e1,eval_eq m2 e2,vHolds_truth,vHolds_truth,knum0,cz_vz,mEval_is' i2 hv,mEval_is' i2 ha,hev a na,hget,hval,hA]
    by_cases hneg:A<0
    ·rw[decide_eq_true hneg,Bool.true_or];exact vSame_refl _
    ·rw[decide_eq_false hneg,hav,show (A.natAbs:Int)=A by omega,vSame_refl,Bool.or_true];exact vSame_refl _
   ·refine⟨NL.made e7 (pair (NL.made e4 (pair (up na) n0)) (NL.made e6 (pair nv n5))),?_⟩;unfold isTrue;rw[eval_or m2 e7,eval_ge m2 e4,eval_eq m2 e6,vHolds_truth,vHolds_truth,knum0,cz_vz,eval_neg m2 e5,mEval_is' i2 hv,mEval_is' i2 ha,hev a na,hget,hval,hA]
    by_cases hneg:0≤A
    ·rw[decide_eq_true hneg,Bool.true_or];exact vSame_refl _
    ·rw[decide_eq_false hneg,show (A.natAbs:Int)=-A by omega,vSame_refl,Bool.or_true];exact vSame_refl _
  ·unfold act1 at hb ⊢;rw[if_neg (show ¬((Tm.mk op g ls nm s ks).op=12∧(Tm.mk op g ls nm s ks).sort=2) from h12),if_neg (show ¬(Tm.mk op g ls nm s ks).op=18 from h18)];exact⟨Int.le_refl _,hm,fun _ _=>rfl,hn,rfl,[],(List.append_nil _).symm,fun d hd=>by cases hd⟩
theorem pures_grow:∀(ks:List Tm) (st:PS),(∀(k:Nat) (t:Tm),ks[k]?=some t→∀st,mIs st.m=true→0≤st.next→st.bad=false→kis t=true→kcnt t≤400→noBang t→(pureT act1 t st).2.bad=false→GrowOk t (pureT act1 t st).1 st (pureT act1 t st).2) →
 mIs st.m=true→0≤st.next→st.bad=false→kiss ks=true→kcnts ks≤400→(∀(k:Nat) (t:Tm),ks[k]?=some t→noBang t)→(pureTs act1 ks st).2.bad=false →
 st.next≤(pureTs act1 ks st).2.next∧mIs (pureTs act1 ks st).2.m=true∧(∀t',NL st.next t'→ev (pureTs act1 ks st).2.m t'=ev st.m t')∧(∀(k:Nat) (u:Tm),(pureTs act1 ks st).1[k]?=some u→NL (pureTs act1 ks st).2.next u) ∧
  evs (pureTs act1 ks st).2.m (pureTs act1 ks st).1=evs st.m ks∧∃D,(pureTs act1 ks st).2.defs=st.defs++D∧∀d∈D,NL (pureTs act1 ks st).2.next d∧isTrue (pureTs act1 ks st).2.m d
 | [],st,_,hm,_,_,_,_,_,_=>by
  rw[pureTs];exact⟨Int.le_refl _,hm,fun _ _=>rfl,fun k u h=>by simp at h,rfl,[],(List.append_nil _).symm,fun d hd=>by cases hd⟩
 | t::r,st,ih,hm,h0,hst,hk,hc,hn,hb=>by
  rw[pureTs_cons hst] at hb ⊢;rw[kiss,Bool.and_eq_true] at hk;rw[kcnts] at hc;have hb1:(pureT act1 t st).2.bad=false:=by
   rcases hq:(pureT act1 t st).2.bad with _|_
   ·rfl
   ·rw[pureTs_bad hq] at hb;rw[hq] at hb;cases hb
  obtain⟨a1,a2,a3,a4,a5,D1,a6,a7⟩:=ih 0 t rfl st hm h0 hst hk.1 (by omega) (hn 0 t rfl) hb1;obtain⟨b1,b2,b3,b4,b5,D2,b6,b7⟩:=pures_grow r (pureT act1 t st).2 (fun k u hu=>ih (k+1) u (by simpa using hu)) a2 (Int.le_trans h0 a1) hb1 hk.2 (by omega) (fun k u hu=>hn (k+1) u (by simpa using hu)) hb;have hr:evs (pureT act1 t st).2.m r=evs st.m r:=by
   rw[evs_map,evs_map];refine List.map_congr_left fun u hu=>?_;obtain⟨k,hk⟩:=List.getElem?_of_mem hu;exact a3 u ((hn (k+1) u (by simpa using hk)).nl _)
  refine⟨Int.le_trans a1 b1,b2,fun t' ht=>(b3 t' (ht.mono a1)).trans (a3 t' ht),fun k u hu=>?_,?_,D1++D2,by rw[b6,a6,List.append_assoc],fun d hd=>?_⟩
  ·match k with
   | 0=>simp at hu;subst hu;exact a4.mono b1
   | k+1=>exact b4 k u (by simpa using hu)
  ·show ev _ _::evs _ _=ev _ _::evs _ _;rw[b3 _ a4,a5,b5,hr]
  ·rcases List.mem_append.1 hd with hd|hd
   ·obtain⟨c1,c2⟩:=a7 d hd;refine⟨c1.mono b1,?_⟩;unfold isTrue at c2 ⊢
    by_cases hi:kIs d=true
    ·rw[mEval_is' b2 hi,b3 d c1]
     rwa [mEval_is' a2 hi] at c2
    ·unfold mEval at c2 ⊢;rw[if_neg hi] at c2 ⊢;exact c2
   ·exact b7 d hd
theorem pure_grow (t:Tm): ∀st,mIs st.m=true→0≤st.next→st.bad=false→kis t=true→kcnt t≤400→noBang t→(pureT act1 t st).2.bad=false→GrowOk t (pureT act1 t st).1 st (pureT act1 t st).2:=by
 refine Tm.indA (P:=fun t=>∀st,mIs st.m=true→0≤st.next→st.bad=false→kis t=true→kcnt t≤400→noBang t→(pureT act1 t st).2.bad=false→GrowOk t (pureT act1 t st).1 st (pureT act1 t st).2) (fun op g ls nm s ks ih st hm h0 hst hk hc hn hb=>?_) t;obtain⟨h1,h2,h3⟩:=pure_mk hb;have hkk:=hk;rw[kis_mk,Bool.and_eq_true] at hkk;have hcc:=hc;rw[kcnt] at hcc;obtain⟨hL,-⟩:=pures_ok ks st (fun k t ht=>pure_ok (act1_ok st.m) t) hst hkk.1 (by omega) h1;obtain⟨b1,b2,b3,b4,b5,D1,b6,b7⟩:=pures_grow ks st ih hm h0 hst hkk.1 (by omega) (fun k t ht=>hn.kid ht) h1;have hcu:=kcnt_pure h2 hL.len;have hku:=hL.kis_mk_ hk hcu;have hnl:NL (pureTs act1 ks st).2.next (.mk op g ls nm s (pureTs act1 ks st).1):=NL.mk_ hn b4;obtain⟨c1,c2,c3,c4,c5,D2,c6,c7⟩:=act1_grow b2 (Int.le_trans h0 b1) h1 (by rw[h3] at hb;exact hb) hku hcu hnl;have hks:evs (pureTs act1 ks st).2.m ks=evs st.m ks:=by
  rw[evs_map,evs_map];refine List.map_congr_left fun u hu=>?_;obtain⟨k,hk⟩:=List.getElem?_of_mem hu;exact b3 u ((hn.kid hk).nl _)
 rw[h3];refine⟨Int.le_trans b1 c1,c2,fun t' ht=>(c3 t' (ht.mono b1)).trans (b3 t' ht),c4,?_,D1++D2,by rw[c6,b6,List.append_assoc],fun d hd=>?_⟩
 ·rw[c5,ev_like (b5.trans hks.symm) op g ls nm s];exact b3 _ (hn.nl _)
 ·rcases List.mem_append.1 hd with hd|hd
  ·obtain⟨d1,d2⟩:=b7 d hd;refine⟨d1.mono c1,?_⟩;unfold isTrue at d2 ⊢
   by_cases hi:kIs d=true
   ·rw[mEval_is' c2 hi,c3 d d1]
    rwa [mEval_is' b2 hi] at d2
   ·unfold mEval at d2 ⊢;rw[if_neg hi] at d2 ⊢;exact d2
  ·exact c7 d hd
end M
namespace M
theorem has1s_at:∀{l:List Tm} {k:Nat} {t:Tm},has1s l=false→l[k]?=some t→has1 t=false
 | [],_,_,_,h=>by simp at h
 | x::r,0,t,h,e=>by simp at e;subst e;rw[has1s,Bool.or_eq_false_iff] at h;exact h.1
 | x::r,k+1,t,h,e=>by rw[has1s,Bool.or_eq_false_iff] at h;exact has1s_at h.2 (k:=k) (by simpa using e)
end M
namespace M
theorem frT_cnt (n s:Int): kcnt (frT n s)≤400:=by unfold frT;rw[kcnt,kcnts];decide
theorem act1_cnt {out:Tm}{st:PS}(h:kcnt out≤400): kcnt (act1 out st).1≤400:=by
 unfold act1
 split
 ·exact frT_cnt _ _
 ·split
  ·exact frT_cnt _ _
  ·exact h
theorem pure_cnt {t:Tm}{st:PS}(hst:st.bad=false)(hk:kis t=true)(hc:kcnt t≤400)(hb:(pureT act1 t st).2.bad=false): kcnt (pureT act1 t st).1≤400:=by
 obtain⟨op,g,ls,nm,s,ks⟩:=t;obtain⟨h1,h2,h3⟩:=pure_mk hb;rw[kis_mk,Bool.and_eq_true] at hk;rw[kcnt] at hc;obtain⟨hL,-⟩:=pures_ok ks st (fun k t ht=>pure_ok (act1_ok st.m) t) hst hk.1 (by omega) h1;rw[h3];exact act1_cnt (kcnt_pure h2 hL.len)
def ps0 (next:Int)(m:List Fn): PS:=⟨[],next,false,m⟩
theorem do_ways {t:Tm}(hk:kIs t=true)(next:Int)(m:List Fn): ((pureT act1 t (ps0 next m)).2.bad=true∧doK act1 t next m=(t,[],next,m)) ∨
 ((pureT act1 t (ps0 next m)).2.bad=false∧doK act1 t next m=((pureT act1 t (ps0 next m)).1,(pureT act1 t (ps0 next m)).2.defs,(pureT act1 t (ps0 next m)).2.next,(pureT act1 t (ps0 next m)).2.m)):=by
 unfold doK;rw[if_pos hk]
 by_cases h:(pureT act1 t (ps0 next m)).2.bad=true
 ·exact .inl ⟨h,if_pos h⟩
 ·exact .inr ⟨by simpa using h,if_neg h⟩
end M
namespace M
structure LS where
 next:Int
 held:List Tm
 cons:List (List UInt8×Tm)
 ref:Bool
def ofT (op:Int)(l:List Tm)(r:Bool): Tm×Bool:=if r=true then (K0,true) else ((kmake op l).1,decide ((kmake op l).2≠0))
def lfOf (op:Int)(l:List Tm)(st:LS): LS:={ st with ref:=(ofT op l st.ref).2 }
def lfHold (l:List Tm)(st:LS): LS:={ st with held:=st.held++[(ofT 7 l st.ref).1],ref:=(ofT 7 l st.ref).2 }
def lfNew (t:Tm)(st:LS): LS:={ st with next:=st.next+1,cons:=st.cons++[(frName st.next,t)] }
def chA (v c a:Tm)(st:LS): LS:=lfHold [(ofT 5 [c] st.ref).1,(ofT 10 [v,a] (lfOf 5 [c] st).ref).1] (lfOf 10 [v,a] (lfOf 5 [c] st))
def chB (v c b:Tm)(st:LS): LS:=lfHold [c,(ofT 10 [v,b] st.ref).1] (lfOf 10 [v,b] st)
def chosenL (t:Tm)(st:LS): LS:=chB (frT st.next 2) (kat t.kids 0) (kat t.kids 2) (chA (frT st.next 2) (kat t.kids 0) (kat t.kids 1) (lfNew t st))
def szA (v n:Tm)(st:LS): LS:=lfHold [(ofT 20 [n,knumT 0] st.ref).1,(ofT 10 [v,n] (lfOf 20 [n,knumT 0] st).ref).1] (lfOf 10 [v,n] (lfOf 20 [n,knumT 0] st))
def szB (v n:Tm)(st:LS): LS:=
 lfHold [(ofT 21 [n,knumT 0] st.ref).1,(ofT 10 [v,(ofT 14 [n] (lfOf 21 [n,knumT 0] st).ref).1] (lfOf 14 [n] (lfOf 21 [n,knumT 0] st)).ref).1]
  (lfOf 10 [v,(ofT 14 [n] (lfOf 21 [n,knumT 0] st).ref).1] (lfOf 14 [n] (lfOf 21 [n,knumT 0] st)))
def sizeL (t:Tm)(st:LS): LS:=szB (frT st.next 2) (kat t.kids 0) (szA (frT st.next 2) (kat t.kids 0) (lfNew t st))
def lfAct (t:Tm)(st:LS): Tm×LS:=if t.op=18 then (frT st.next 2,sizeL t st) else if t.op=12∧t.sort=2 then (frT st.next 2,chosenL t st) else (t,st)
mutual
def lfT:Tm→LS→Tm×LS
 | .mk op g ls nm s ks,st=>lfAct (.mk op g ls nm s (lfTs ks st).1) (lfTs ks st).2
def lfTs:List Tm→LS→List Tm×LS
 | [],st=>([],st)
 | t::r,st=>((lfT t st).1::(lfTs r (lfT t st).2).1,(lfTs r (lfT t st).2).2)
end
def overM (m:List Fn)(cs:List (List UInt8×Tm)): List Fn:=cs.foldl (fun m c=>mPut (mRead m) ⟨⟨c.1,[],(mEval m c.2).1⟩,[],mEval m c.2⟩) m
theorem overM_snoc (m:List Fn)(cs:List (List UInt8×Tm))(c:List UInt8×Tm): overM m (cs++[c])=mPut (mRead (overM m cs)) ⟨⟨c.1,[],(mEval (overM m cs) c.2).1⟩,[],mEval (overM m cs) c.2⟩:=by
 unfold overM;rw[List.foldl_append];rfl
theorem ofT_ref {op:Int}{l:List Tm}: ofT op l true=(K0,true):=by unfold ofT;rw[if_pos rfl]
theorem ofT_new {op:Int}{l:List Tm}: ofT op l false=((kmake op l).1,decide ((kmake op l).2≠0)):=by unfold ofT;rw[if_neg (by decide)]
theorem lfOf_ref {op:Int}{l:List Tm}{st:LS}(h:st.ref=true): (lfOf op l st).ref=true:=by unfold lfOf;show (ofT op l st.ref).2=true;rw[h,ofT_ref]
theorem lfHold_ref {l:List Tm}{st:LS}(h:st.ref=true): (lfHold l st).ref=true:=by unfold lfHold;show (ofT 7 l st.ref).2=true;rw[h,ofT_ref]
theorem chA_ref {v c a:Tm}{st:LS}(h:st.ref=true): (chA v c a st).ref=true:=lfHold_ref (lfOf_ref (lfOf_ref h))
theorem chB_ref {v c b:Tm}{st:LS}(h:st.ref=true): (chB v c b st).ref=true:=lfHold_ref (lfOf_ref h)
theorem szA_ref {v n:Tm}{st:LS}(h:st.ref=true): (szA v n st).ref=true:=lfHold_ref (lfOf_ref (lfOf_ref h))
theorem szB_ref {v n:Tm}{st:LS}(h:st.ref=true): (szB v n st).ref=true:=lfHold_ref (lfOf_ref (lfOf_ref (lfOf_ref h)))
theorem lfAct_ref {t:Tm}{st:LS}(h:st.ref=true): (lfAct t st).2.ref=true:=by
 unfold lfAct
 split
 ·exact szB_ref (szA_ref h)
 ·split
  ·exact chB_ref (chA_ref h)
  ·exact h
theorem lfTs_ref:∀(ks:List Tm) (st:LS),(∀(k:Nat) (t:Tm),ks[k]?=some t→∀st:LS,st.ref=true→(lfT t st).2.ref=true)→st.ref=true→(lfTs ks st).2.ref=true
 | [],st,_,h=>by rw[lfTs];exact h
 | t::r,st,ih,h=>by
  rw[lfTs];exact lfTs_ref r _ (fun k u hu=>ih (k+1) u (by simpa using hu)) (ih 0 t rfl st h)
theorem lfT_ref (t:Tm): ∀st:LS,st.ref=true→(lfT t st).2.ref=true:=by
 refine Tm.indA (P:=fun t=>∀st:LS,st.ref=true→(lfT t st).2.ref=true) (fun op g ls nm s ks ih st h=>?_) t;rw[lfT];exact lfAct_ref (lfTs_ref ks st ih h)
theorem frT_one (n s:Int): kcnt (frT n s)=1:=by unfold frT;rw[kcnt,kcnts]
theorem lfAct_cnt (t:Tm)(st:LS): kcnt (lfAct t st).1≤kcnt t:=by
 have h1:1≤kcnt t:=by obtain⟨op,g,ls,nm,s,ks⟩:=t;rw[kcnt];omega
 unfold lfAct
 split
 ·rw[frT_one];exact h1
 ·split
  ·rw[frT_one];exact h1
  ·exact Nat.le_refl _
theorem lfTs_cnt:∀(ks:List Tm) (st:LS),(∀(k:Nat) (t:Tm),ks[k]?=some t→∀st:LS,kcnt (lfT t st).1≤kcnt t)→kcnts (lfTs ks st).1≤kcnts ks∧(lfTs ks st).1.length=ks.length
 | [],st,_=>by rw[lfTs];exact⟨Nat.le_refl _,rfl⟩
 | t::r,st,ih=>by
  obtain⟨h1,h2⟩:=lfTs_cnt r (lfT t st).2 (fun k u hu=>ih (k+1) u (by simpa using hu));have h3:=ih 0 t rfl st;rw[lfTs,kcnts,kcnts];exact⟨by omega,by rw[List.length_cons,List.length_cons,h2]⟩
theorem lfT_cnt (t:Tm): ∀st:LS,kcnt (lfT t st).1≤kcnt t:=by
 refine Tm.indA (P:=fun t=>∀st:LS,kcnt (lfT t st).1≤kcnt t) (fun op g ls nm s ks ih st=>?_) t;rw[lfT];refine Nat.le_trans (lfAct_cnt _ _) ?_;rw[kcnt,kcnt];have:=(lfTs_cnt ks st ih).1;omega
theorem lfTs_len (ks:List Tm)(st:LS): (lfTs ks st).1.length=ks.length:=(lfTs_cnt ks st fun k t _=>lfT_cnt t).2
def Sim (m0:List Fn)(st:LS)(ps:PS): Prop:=ps.next=st.next∧ps.defs=st.held∧ps.m=overM m0 st.cons
theorem chA_ok {v c a:Tm}{st:LS}(h:st.ref=false): ((chA v c a st).ref=false↔(kmake 5 [c]).2=0∧(kmake 10 [v,a]).2=0∧(kmake 7 [(kmake 5 [c]).1,(kmake 10 [v,a]).1]).2=0) ∧
 ((chA v c a st).ref=false→chA v c a st={ st with held:=st.held++[(kmake 7 [(kmake 5 [c]).1,(kmake 10 [v,a]).1]).1] }):=by
 obtain⟨n,hl,cs,r⟩:=st;obtain rfl:r=false:=h
 by_cases h1:(kmake 5 [c]).2=0
 ·by_cases h2:(kmake 10 [v,a]).2=0
  ·by_cases h3:(kmake 7 [(kmake 5 [c]).1,(kmake 10 [v,a]).1]).2=0
   ·simp[chA,lfHold,lfOf,ofT,h1,h2,h3]
   ·simp[chA,lfHold,lfOf,ofT,h1,h2,h3]
  ·simp[chA,lfHold,lfOf,ofT,h1,h2]
 ·simp[chA,lfHold,lfOf,ofT,h1]
theorem chB_ok {v c b:Tm}{st:LS}(h:st.ref=false): ((chB v c b st).ref=false↔(kmake 10 [v,b]).2=0∧(kmake 7 [c,(kmake 10 [v,b]).1]).2=0) ∧
 ((chB v c b st).ref=false→chB v c b st={ st with held:=st.held++[(kmake 7 [c,(kmake 10 [v,b]).1]).1] }):=by
 obtain⟨n,hl,cs,r⟩:=st;obtain rfl:r=false:=h
 by_cases h1:(kmake 10 [v,b]).2=0
 ·by_cases h2:(kmake 7 [c,(kmake 10 [v,b]).1]).2=0
  ·simp[chB,lfHold,lfOf,ofT,h1,h2]
  ·simp[chB,lfHold,lfOf,ofT,h1,h2]
 ·simp[chB,lfHold,lfOf,ofT,h1]
theorem szA_ok {v n:Tm}{st:LS}(h:st.ref=false): ((szA v n st).ref=false↔(kmake 20 [n,knumT 0]).2=0∧(kmake 10 [v,n]).2=0∧(kmake 7 [(kmake 20 [n,knumT 0]).1,(kmake 10 [v,n]).1]).2=0) ∧
 ((szA v n st).ref=false→szA v n st={ st with held:=st.held++[(kmake 7 [(kmake 20 [n,knumT 0]).1,(kmake 10 [v,n]).1]).1] }):=by
 obtain⟨nx,hl,cs,r⟩:=st;obtain rfl:r=false:=h
 by_cases h1:(kmake 20 [n,knumT 0]).2=0
 ·by_cases h2:(kmake 10 [v,n]).2=0
  ·by_cases h3:(kmake 7 [(kmake 20 [n,knumT 0]).1,(kmake 10 [v,n]).1]).2=0
   ·simp[szA,lfHold,lfOf,ofT,h1,h2,h3]
   ·simp[szA,lfHold,lfOf,ofT,h1,h2,h3]
  ·simp[szA,lfHold,lfOf,ofT,h1,h2]
 ·simp[szA,lfHold,lfOf,ofT,h1]
theorem szB_ok {v n:Tm}{st:LS}(h:st.ref=false): ((szB v n st).ref=false↔(kmake 21 [n,knumT 0]).2=0∧(kmake 14 [n]).2=0∧(kmake 10 [v,(kmake 14 [n]).1]).2=0∧(kmake 7 [(kmake 21 [n,knumT 0]).1,(kmake 10 [v,(kmake 14 [n]).1]).1]).2=0) ∧
 ((szB v n st).ref=false→szB v n st={ st with held:=st.held++[(kmake 7 [(kmake 21 [n,knumT 0]).1,(kmake 10 [v,(kmake 14 [n]).1]).1]).1] }):=by
 obtain⟨nx,hl,cs,r⟩:=st;obtain rfl:r=false:=h
 by_cases h1:(kmake 21 [n,knumT 0]).2=0
 ·by_cases h0:(kmake 14 [n]).2=0
  ·by_cases h2:(kmake 10 [v,(kmake 14 [n]).1]).2=0
   ·by_cases h3:(kmake 7 [(kmake 21 [n,knumT 0]).1,(kmake 10 [v,(kmake 14 [n]).1]).1]).2=0
    ·simp[szB,lfHold,lfOf,ofT,h0,h1,h2,h3]
    ·simp[szB,lfHold,lfOf,ofT,h0,h1,h2,h3]
   ·simp[szB,lfHold,lfOf,ofT,h0,h1,h2]
  ·simp[szB,lfHold,lfOf,ofT,h0,h1]
 ·simp[szB,lfHold,lfOf,ofT,h1]
theorem ref_no {b:Bool}(h:¬b=true): b=false:=by simpa using h
theorem lfAct_sim {m0:List Fn}{t:Tm}{st:LS}{ps:PS}(h:Sim m0 st ps)(hr:st.ref=false)(hb:ps.bad=false): (lfAct t st).2.ref=(act1 t ps).2.bad∧((act1 t ps).2.bad=false→(lfAct t st).1=(act1 t ps).1∧Sim m0 (lfAct t st).2 (act1 t ps).2):=by
 obtain⟨s1,s2,s3⟩:=h;obtain⟨dn,nx,bd,pm⟩:=ps;obtain rfl:bd=false:=hb;obtain rfl:nx=st.next:=s1;obtain rfl:dn=st.held:=s2;obtain rfl:pm=overM m0 st.cons:=s3;have hnr:(lfNew t st).ref=false:=hr
 by_cases h18:t.op=18
 ·have h12:¬(t.op=12∧t.sort=2):=fun h=>by rw[h18] at h;exact absurd h.1 (by decide)
  unfold lfAct act1;rw[if_pos h18,if_neg h12,if_pos h18];obtain⟨a1,a2⟩:=szA_ok (v:=frT st.next 2) (n:=kat t.kids 0) hnr;have key:(sizeL t st).ref=false↔(absDefs (frT st.next 2) (kat t.kids 0)).2=false:=by
   unfold absDefs;simp only[Bool.or_eq_false_iff,decide_eq_false_iff_not,Decidable.not_not];constructor
   ·intro hq;have hA:(szA (frT st.next 2) (kat t.kids 0) (lfNew t st)).ref=false:=by
     rcases he:(szA (frT st.next 2) (kat t.kids 0) (lfNew t st)).ref with _|_
     ·rfl
     ·have:=szB_ref (v:=frT st.next 2) (n:=kat t.kids 0) he;unfold sizeL at hq;rw[this] at hq;cases hq
    obtain⟨e1,e2,e3⟩:=a1.1 hA;obtain⟨f1,f2,f3,f4⟩:=(szB_ok (v:=frT st.next 2) (n:=kat t.kids 0) hA).1.1 hq;exact⟨⟨⟨⟨⟨⟨e1,e2⟩,e3⟩,f1⟩,f2⟩,f3⟩,f4⟩
   ·rintro⟨⟨⟨⟨⟨⟨e1,e2⟩,e3⟩,f1⟩,f2⟩,f3⟩,f4⟩;exact(szB_ok (v:=frT st.next 2) (n:=kat t.kids 0) (a1.2 ⟨e1,e2,e3⟩)).1.2 ⟨f1,f2,f3,f4⟩
  refine⟨?_,fun hbd=>⟨rfl,?_⟩⟩
  ·show (sizeL t st).ref=(false||(absDefs (frT st.next 2) (kat t.kids 0)).2);rw[Bool.false_or];rcases hq:(absDefs (frT st.next 2) (kat t.kids 0)).2 with _|_
   ·exact key.2 hq
   ·rcases he:(sizeL t st).ref with _|_
    ·rw[key.1 he] at hq;cases hq
    ·rfl
  ·have hq:(absDefs (frT st.next 2) (kat t.kids 0)).2=false:=by
    have:(false||(absDefs (frT st.next 2) (kat t.kids 0)).2)=false:=hbd
    rwa [Bool.false_or] at this
   have hz:=key.2 hq;have hA:(szA (frT st.next 2) (kat t.kids 0) (lfNew t st)).ref=false:=by
    rcases he:(szA (frT st.next 2) (kat t.kids 0) (lfNew t st)).ref with _|_
    ·rfl
    ·have:=szB_ref (v:=frT st.next 2) (n:=kat t.kids 0) he;unfold sizeL at hz;rw[this] at hz;cases hz
   have eB:=(szB_ok (v:=frT st.next 2) (n:=kat t.kids 0) hA).2 hz;have eA:=a2 hA;unfold sizeL;rw[eB,eA];refine⟨rfl,?_,?_⟩
   ·show st.held++(absDefs (frT st.next 2) (kat t.kids 0)).1=st.held++[_]++[_];rw[List.append_assoc];rfl
   ·exact(overM_snoc m0 st.cons (frName st.next,t)).symm
 ·by_cases h12:t.op=12∧t.sort=2
  ·unfold lfAct act1;rw[if_neg h18,if_pos h12,if_pos h12];obtain⟨a1,a2⟩:=chA_ok (v:=frT st.next 2) (c:=kat t.kids 0) (a:=kat t.kids 1) hnr;have hAof:(chosenL t st).ref=false→(chA (frT st.next 2) (kat t.kids 0) (kat t.kids 1) (lfNew t st)).ref=false:=fun hq=>by
    rcases he:(chA (frT st.next 2) (kat t.kids 0) (kat t.kids 1) (lfNew t st)).ref with _|_
    ·rfl
    ·have:=chB_ref (v:=frT st.next 2) (c:=kat t.kids 0) (b:=kat t.kids 2) he;unfold chosenL at hq;rw[this] at hq;cases hq
   have key:(chosenL t st).ref=false↔(iteDefs (frT st.next 2) (kat t.kids 0) (kat t.kids 1) (kat t.kids 2)).2=false:=by
    unfold iteDefs;simp only[Bool.or_eq_false_iff,decide_eq_false_iff_not,Decidable.not_not];constructor
    ·intro hq;obtain⟨e1,e2,e3⟩:=a1.1 (hAof hq);obtain⟨f1,f2⟩:=(chB_ok (v:=frT st.next 2) (c:=kat t.kids 0) (b:=kat t.kids 2) (hAof hq)).1.1 hq;exact⟨⟨⟨⟨e1,e2⟩,e3⟩,f1⟩,f2⟩
    ·rintro⟨⟨⟨⟨e1,e2⟩,e3⟩,f1⟩,f2⟩;exact(chB_ok (v:=frT st.next 2) (c:=kat t.kids 0) (b:=kat t.kids 2) (a1.2 ⟨e1,e2,e3⟩)).1.2 ⟨f1,f2⟩
   refine⟨?_,fun hbd=>⟨rfl,?_⟩⟩
   ·show (chosenL t st).ref=(false||(iteDefs (frT st.next 2) (kat t.kids 0) (kat t.kids 1) (kat t.kids 2)).2);rw[Bool.false_or];rcases hq:(iteDefs (frT st.next 2) (kat t.kids 0) (kat t.kids 1) (kat t.kids 2)).2 with _|_
    ·exact key.2 hq
    ·rcases he:(chosenL t st).ref with _|_
     ·rw[key.1 he] at hq;cases hq
     ·rfl
   ·have hq:(iteDefs (frT st.next 2) (kat t.kids 0) (kat t.kids 1) (kat t.kids 2)).2=false:=by
     have:(false||(iteDefs (frT st.next 2) (kat t.kids 0) (kat t.kids 1) (kat t.kids 2)).2)=false:=hbd
     rwa [Bool.false_or] at this
    have hz:=key.2 hq;have hA:=hAof hz;have eB:=(chB_ok (v:=frT st.next 2) (c:=kat t.kids 0) (b:=kat t.kids 2) hA).2 hz;have eA:=a2 hA;unfold chosenL;rw[eB,eA];refine⟨rfl,?_,?_⟩
    ·show st.held++(iteDefs (frT st.next 2) (kat t.kids 0) (kat t.kids 1) (kat t.kids 2)).1=st.held++[_]++[_];rw[List.append_assoc];rfl
    ·exact(overM_snoc m0 st.cons (frName st.next,t)).symm
  ·unfold lfAct act1;rw[if_neg h18,if_neg h12,if_neg h12,if_neg h18];exact⟨hr,fun _=>⟨rfl,rfl,rfl,rfl⟩⟩
def SimT (m0:List Fn)(t:Tm): Prop:=∀(st:LS) (ps:PS),Sim m0 st ps→st.ref=false→ps.bad=false→kcnt t≤400→(lfT t st).2.ref=(pureT act1 t ps).2.bad∧((pureT act1 t ps).2.bad=false→(lfT t st).1=(pureT act1 t ps).1∧Sim m0 (lfT t st).2 (pureT act1 t ps).2)
theorem lfTs_sim {m0:List Fn}: ∀(ks:List Tm) (st:LS) (ps:PS),(∀(k:Nat) (t:Tm),ks[k]?=some t→SimT m0 t)→Sim m0 st ps→st.ref=false→ps.bad=false→kcnts ks≤400 →
 (lfTs ks st).2.ref=(pureTs act1 ks ps).2.bad∧((pureTs act1 ks ps).2.bad=false→(lfTs ks st).1=(pureTs act1 ks ps).1∧Sim m0 (lfTs ks st).2 (pureTs act1 ks ps).2)
 | [],st,ps,_,h,hr,hb,_=>by rw[lfTs,pureTs];exact⟨by rw[hr,hb],fun _=>⟨rfl,h⟩⟩
 | t::r,st,ps,ih,h,hr,hb,hc=>by
  rw[kcnts] at hc;obtain⟨a1,a2⟩:=ih 0 t rfl st ps h hr hb (by omega);rw[lfTs,pureTs_cons hb];rcases hq:(pureT act1 t ps).2.bad with _|_
  ·obtain⟨e1,e2⟩:=a2 hq;rw[hq] at a1;obtain⟨b1,b2⟩:=lfTs_sim r _ _ (fun k u hu=>ih (k+1) u (by simpa using hu)) e2 a1 hq (by omega);refine⟨b1,fun hbd=>?_⟩;obtain⟨f1,f2⟩:=b2 hbd;exact⟨by rw[e1,f1],f2⟩
  ·rw[hq] at a1;rw[pureTs_bad hq];refine⟨?_,fun hbd=>?_⟩
   ·rw[lfTs_ref r _ (fun k u _=>lfT_ref u) a1];exact hq.symm
   ·rw[hq] at hbd;cases hbd
theorem lfT_sim {m0:List Fn}(t:Tm): SimT m0 t:=by
 refine Tm.indA (P:=fun t=>SimT m0 t) (fun op g ls nm s ks ih st ps h hr hb hc=>?_) t;rw[kcnt] at hc;obtain⟨a1,a2⟩:=lfTs_sim ks st ps ih h hr hb (by omega);have hcn:=(lfTs_cnt ks st fun k t _=>lfT_cnt t).1;rw[lfT];rcases hq:(pureTs act1 ks ps).2.bad with _|_
 ·obtain⟨e1,e2⟩:=a2 hq;rw[hq] at a1;have hp:pureT act1 (.mk op g ls nm s ks) ps=act1 (.mk op g ls nm s (pureTs act1 ks ps).1) (pureTs act1 ks ps).2:=by
   rw[pureT,if_neg (by rw[hq];decide),if_neg];rintro⟨-,h4⟩;rw[←e1,kcnt] at h4;omega
  rw[hp,←e1];exact lfAct_sim e2 a1 hq
 ·rw[hq] at a1;have hp:(pureT act1 (.mk op g ls nm s ks) ps).2=(pureTs act1 ks ps).2:=by rw[pureT,if_pos hq]
  rw[hp,hq];exact⟨lfAct_ref a1,fun h=>by cases h⟩
def ls0 (next:Int): LS:=⟨next,[],[],false⟩
def lifted (t:Tm)(next:Int): Tm×LS:=if kIs t=true∧(lfT t (ls0 next)).2.ref=false then lfT t (ls0 next) else (t,ls0 next)
theorem lifted_do {t:Tm}{next:Int}{m:List Fn}: doK act1 t next m=((lifted t next).1,(lifted t next).2.held,(lifted t next).2.next,overM m (lifted t next).2.cons):=by
 unfold doK lifted
 by_cases hk:kIs t=true
 ·rw[if_pos hk];obtain⟨a1,a2⟩:=lfT_sim (m0:=m) t (ls0 next) ⟨[],next,false,m⟩ ⟨rfl,rfl,rfl⟩ rfl rfl (kIs_parts hk).1
  by_cases hq:(pureT act1 t ⟨[],next,false,m⟩).2.bad=true
  ·rw[if_pos hq,if_neg (by rintro⟨-,h⟩;rw[a1,hq] at h;cases h)];rfl
  ·rw[if_neg hq,if_pos ⟨hk,by rw[a1];exact ref_no hq⟩];obtain⟨e1,e2,e3,e4⟩:=a2 (ref_no hq);rw[e1,e2,e3,e4]
 ·rw[if_neg hk,if_neg fun h=>hk h.1];rfl
end M
end Go.Proofs.YtoenjbkmiphhoaaGreatDoor.Q
