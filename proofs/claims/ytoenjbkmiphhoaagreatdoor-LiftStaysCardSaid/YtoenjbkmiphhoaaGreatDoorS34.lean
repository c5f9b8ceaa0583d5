/-
  Layer 13: where the new constants are as they are meant, what is to hold does, and terms are worth the same, mathematics.
-/
import Derived.Test.YtoenjbkmiphhoaaGreatDoorS33
import Derived.Test.YtoenjbkmiphhoaaGreatDoorS09
namespace Go.Proofs.YtoenjbkmiphhoaaGreatDoor.Q
set_option linter.unusedSimpArgs false
set_option linter.unusedVariables false
open Go.RowKit
namespace M
theorem dec_nil (n:Nat): Go.Lib.decDigits n≠[]:=by
 by_cases h:n<10
 ·rw[M.dec_small h];simp
 ·rw[M.dec_big h];simp
theorem dec_inj:∀(a b:Nat),Go.Lib.decDigits a=Go.Lib.decDigits b→a=b:=by
 intro a
 induction a using Nat.strongRecOn with
 | _ a ih=>
  intro b h
  have hd:∀x y:Nat,x<10→y<10→UInt8.ofNat (48+x)=UInt8.ofNat (48+y)→x=y:=fun x y hx hy e=>by
   have:=congrArg UInt8.toNat e
   simp at this
   omega
  by_cases ha:a<10
  ·by_cases hb:b<10
   ·rw[M.dec_small ha,M.dec_small hb] at h
    exact hd a b ha hb (List.cons.inj h).1
   ·rw[M.dec_small ha,M.dec_big hb] at h
    have h2:=congrArg List.length h
    have h3:=List.length_pos_iff.2 (dec_nil (b/10))
    simp at h2
    exact absurd h2 (dec_nil (b/10))
  ·by_cases hb:b<10
   ·rw[M.dec_big ha,M.dec_small hb] at h
    have h2:=congrArg List.length h
    have h3:=List.length_pos_iff.2 (dec_nil (a/10))
    simp at h2
    exact absurd h2 (dec_nil (a/10))
   ·rw[M.dec_big ha,M.dec_big hb] at h
    obtain⟨h1,h2⟩:=List.append_inj' h rfl
    have e1:=ih (a/10) (by omega) (b/10) h1
    have e2:=hd (a%10) (b%10) (by omega) (by omega) (List.cons.inj h2).1
    omega
theorem frName_inj {a b:Int}(ha:0≤a)(hb:0≤b)(h:frName a=frName b): a=b:=by
 unfold frName at h
 rw[Int.max_eq_right ha,Int.max_eq_right hb] at h
 have h2:=(List.cons.inj h).2
 have:=dec_inj _ _ h2
 omega
def NL (N:Int)(t:Tm): Prop:=∀nm,kHas nm t=true→nm.head?≠some 33∨∃j,0≤j∧j<N∧nm=frName j
def noBang (t:Tm): Prop:=∀nm,kHas nm t=true→nm.head?≠some 33
theorem NL.mono {t:Tm}{N N':Int}(h:NL N t)(hN:N≤N'): NL N' t:=fun nm hn=>(h nm hn).imp id fun⟨j,h1,h2,h3⟩=>⟨j,h1,Int.lt_of_lt_of_le h2 hN,h3⟩
theorem NL.no {t:Tm}{N n:Int}(h:NL N t)(h0:0≤n)(hn:N≤n): kHas (frName n) t=false:=by
 rcases hq:kHas (frName n) t with _|_
 ·rfl
 ·rcases h _ hq with h1|⟨j,h1,h2,h3⟩
  ·exact absurd rfl h1
  ·have:=frName_inj h0 h1 h3
   omega
theorem kHass_of {nm:List UInt8}: ∀{l:List Tm},kHass nm l=true→∃(k:Nat) (t:Tm),l[k]?=some t∧kHas nm t=true
 | [],h=>by rw[kHass] at h;cases h
 | t::r,h=>by
  rw[kHass,Bool.or_eq_true] at h
  rcases h with h|h
  ·exact⟨0,t,rfl,h⟩
  ·obtain⟨k,u,hu,hh⟩:=kHass_of h
   exact⟨k+1,u,by simpa using hu,hh⟩
theorem NL.mk_ {N:Int}{op:Int}{g:Bool}{ls:List Nat}{n:List UInt8}{s:Int}{us ks:List Tm}(h:noBang (.mk op g ls n s ks))(hu:∀(k:Nat) (u:Tm),us[k]?=some u→NL N u): NL N (.mk op g ls n s us):=by
 intro nm hn
 rw[kHas,Bool.or_eq_true] at hn
 rcases hn with hn|hn
 ·refine .inl (h nm ?_)
  rw[kHas,hn,Bool.true_or]
 ·obtain⟨k,u,hk,hh⟩:=kHass_of hn
  exact hu k u hk nm hh
theorem NL.made {N:Int}{op:Int}{l:List Tm}(he:(kmake op l).2=0)(hl:∀(k:Nat) (u:Tm),l[k]?=some u→NL N u): NL N (kmake op l).1:=by
 obtain⟨h1,h2,ha,hi,hc⟩:=kmake_ok he
 rw[(mk_is h1 h2 ha hi hc).1]
 intro nm hn
 replace hn:kHas nm (.mk op false [] [] (kres op l) l)=true:=hn
 rw[kHas,Bool.or_eq_true] at hn
 rcases hn with hn|hn
 ·rw[Bool.and_eq_true] at hn
  have h5:=of_decide_eq_true hn.1
  omega
 ·obtain⟨k,u,hk,hh⟩:=kHass_of hn
  exact hl k u hk nm hh
theorem NL.num (N Z:Int): NL N (knumT Z):=by
 intro nm h
 unfold knumT at h
 rw[kHas,Bool.or_eq_true] at h
 rcases h with h|h
 ·rw[Bool.and_eq_true] at h
  exact absurd (of_decide_eq_true h.1) (by decide)
 ·rw[kHass] at h;cases h
end M
namespace M
theorem has1s_at:∀{l:List Tm} {k:Nat} {t:Tm},has1s l=false→l[k]?=some t→has1 t=false
 | [],_,_,_,h=>by simp at h
 | x::r,0,t,h,e=>by simp at e;subst e;rw[has1s,Bool.or_eq_false_iff] at h;exact h.1
 | x::r,k+1,t,h,e=>by rw[has1s,Bool.or_eq_false_iff] at h;exact has1s_at h.2 (k:=k) (by simpa using e)
theorem kcnts_ge:∀{l:List Tm} {k:Nat} {t:Tm},l[k]?=some t→kcnt t≤kcnts l
 | [],_,_,h=>by simp at h
 | x::r,0,t,h=>by simp at h;subst h;rw[kcnts];omega
 | x::r,k+1,t,h=>by
  have:=kcnts_ge (l:=r) (k:=k) (t:=t) (by simpa using h)
  rw[kcnts];omega
theorem has1_mk {op:Int}{g:Bool}{ls:List Nat}{nm:List UInt8}{s:Int}{ks:List Tm}(h:has1 (.mk op g ls nm s ks)=false): ¬(op=12∧s=2)∧op≠18∧has1s ks=false:=by
 rw[has1,Bool.or_eq_false_iff,Bool.or_eq_false_iff,Bool.and_eq_false_iff,decide_eq_false_iff_not,decide_eq_false_iff_not,decide_eq_false_iff_not] at h
 exact⟨fun⟨h1,h2⟩=>h.1.1.elim (fun h=>h h1) (fun h=>h h2),h.1.2,h.2⟩
theorem act1_no {t:Tm}{st:PS}(h1:¬(t.op=12∧t.sort=2))(h2:t.op≠18): act1 t st=(t,st):=by
 unfold act1
 rw[if_neg h1,if_neg h2]
theorem pure_stay (t:Tm): ∀st,st.bad=false→kcnt t≤400→has1 t=false→pureT act1 t st=(t,st):=by
 refine Tm.indA (P:=fun t=>∀st,st.bad=false→kcnt t≤400→has1 t=false→pureT act1 t st=(t,st)) (fun op g ls nm s ks ih st hst hc h=>?_) t
 obtain⟨h1,h2,h3⟩:=has1_mk h
 have hcc:=hc
 rw[kcnt] at hcc
 have hk:∀(l:List Tm),(∀(k:Nat) (u:Tm),l[k]?=some u→pureT act1 u st=(u,st))→pureTs act1 l st=(l,st):=by
  intro l
  induction l with
  | nil=>intro _;rw[pureTs]
  | cons x r ihl=>
   intro hl
   rw[pureTs_cons hst,hl 0 x rfl,ihl fun k u hu=>hl (k+1) u (by simpa using hu)]
 have hp:=hk ks fun k u hu=>ih k u hu st hst (by have:=kcnts_ge hu;omega) (has1s_at h3 hu)
 rw[pureT,hp,if_neg (by rw[hst];decide),if_neg (by rintro⟨-,h⟩;exact absurd hc (Nat.not_le_of_lt h))]
 exact act1_no h1 h2
def StayOk (u:Tm)(st st':PS): Prop:=has1 u=false∧st.next≤st'.next∧(st'.defs.length:Int)=st.defs.length+2*(st'.next-st.next)
theorem act1_stay {st:PS}{out:Tm}(hk:has1s out.kids=false): StayOk (act1 out st).1 st (act1 out st).2:=by
 have hv:has1 (frT st.next 2)=false:=by unfold frT;rw[has1,has1s];rfl
 by_cases h12:out.op=12∧out.sort=2
 ·unfold act1
  rw[if_pos h12]
  refine⟨hv,by show st.next≤st.next+1;omega,?_⟩
  show ((st.defs++_).length:Int)=_+2*(st.next+1-st.next)
  rw[List.length_append]
  show ((st.defs.length+2:Nat):Int)=_
  omega
 ·by_cases h18:out.op=18
  ·unfold act1
   rw[if_neg h12,if_pos h18]
   refine⟨hv,by show st.next≤st.next+1;omega,?_⟩
   show ((st.defs++_).length:Int)=_+2*(st.next+1-st.next)
   rw[List.length_append]
   show ((st.defs.length+2:Nat):Int)=_
   omega
  ·rw[act1_no h12 h18]
   refine⟨?_,Int.le_refl _,by show (st.defs.length:Int)=st.defs.length+2*(st.next-st.next);omega⟩
   obtain⟨op,g,ls,nm,s,ks⟩:=out
   show has1 (.mk op g ls nm s ks)=false
   rw[has1,Bool.or_eq_false_iff,Bool.or_eq_false_iff,Bool.and_eq_false_iff,decide_eq_false_iff_not,decide_eq_false_iff_not,decide_eq_false_iff_not]
   refine⟨⟨?_,h18⟩,hk⟩
   by_cases ho:op=12
   ·exact .inr fun hs=>h12 ⟨ho,hs⟩
   ·exact .inl ho
theorem pures_stay:∀(ks:List Tm) (st:PS),(∀(k:Nat) (t:Tm),ks[k]?=some t→∀st,st.bad=false→(pureT act1 t st).2.bad=false→StayOk (pureT act1 t st).1 st (pureT act1 t st).2)→st.bad=false→(pureTs act1 ks st).2.bad=false →
 has1s (pureTs act1 ks st).1=false∧st.next≤(pureTs act1 ks st).2.next∧((pureTs act1 ks st).2.defs.length:Int)=st.defs.length+2*((pureTs act1 ks st).2.next-st.next)
 | [],st,_,_,_=>by
  rw[pureTs]
  exact⟨by rw[has1s],Int.le_refl _,by show (st.defs.length:Int)=st.defs.length+2*(st.next-st.next);omega⟩
 | t::r,st,ih,hst,hb=>by
  rw[pureTs_cons hst] at hb ⊢
  have hb1:(pureT act1 t st).2.bad=false:=by
   rcases hq:(pureT act1 t st).2.bad with _|_
   ·rfl
   ·rw[pureTs_bad hq] at hb
    rw[hq] at hb;cases hb
  obtain⟨a1,a2,a3⟩:=ih 0 t rfl st hst hb1
  obtain⟨b1,b2,b3⟩:=pures_stay r (pureT act1 t st).2 (fun k u hu=>ih (k+1) u (by simpa using hu)) hb1 hb
  refine⟨?_,Int.le_trans a2 b2,?_⟩
  ·show has1s ((pureT act1 t st).1::(pureTs act1 r (pureT act1 t st).2).1)=false
   rw[has1s,a1,b1];rfl
  ·show ((pureTs act1 r (pureT act1 t st).2).2.defs.length:Int)=_+2*((pureTs act1 r (pureT act1 t st).2).2.next-st.next)
   omega
theorem pure_pure (t:Tm): ∀st,st.bad=false→(pureT act1 t st).2.bad=false→StayOk (pureT act1 t st).1 st (pureT act1 t st).2:=by
 refine Tm.indA (P:=fun t=>∀st,st.bad=false→(pureT act1 t st).2.bad=false→StayOk (pureT act1 t st).1 st (pureT act1 t st).2) (fun op g ls nm s ks ih st hst hb=>?_) t
 obtain⟨h1,h2,h3⟩:=pure_mk hb
 obtain⟨b1,b2,b3⟩:=pures_stay ks st ih hst h1
 obtain⟨c1,c2,c3⟩:=act1_stay (st:=(pureTs act1 ks st).2) (out:=.mk op g ls nm s (pureTs act1 ks st).1) b1
 rw[h3]
 exact⟨c1,Int.le_trans b2 c2,by omega⟩
end M
namespace M
theorem frT_cnt (n s:Int): kcnt (frT n s)≤400:=by unfold frT;rw[kcnt,kcnts];decide
theorem act1_cnt {out:Tm}{st:PS}(h:kcnt out≤400): kcnt (act1 out st).1≤400:=by
 unfold act1
 split
 ·exact frT_cnt _ _
 ·split
  ·exact frT_cnt _ _
  ·exact h
theorem pure_cnt {t:Tm}{st:PS}(hst:st.bad=false)(hk:kis t=true)(hc:kcnt t≤400)(hb:(pureT act1 t st).2.bad=false): kcnt (pureT act1 t st).1≤400:=by
 obtain⟨op,g,ls,nm,s,ks⟩:=t
 obtain⟨h1,h2,h3⟩:=pure_mk hb
 rw[kis_mk,Bool.and_eq_true] at hk
 rw[kcnt] at hc
 obtain⟨hL,-⟩:=pures_ok ks st (fun k t ht=>pure_ok (act1_ok st.m) t) hst hk.1 (by omega) h1
 rw[h3]
 exact act1_cnt (kcnt_pure h2 hL.len)
def ps0 (next:Int)(m:List Fn): PS:=⟨[],next,false,m⟩
theorem do_ways {t:Tm}(hk:kIs t=true)(next:Int)(m:List Fn): ((pureT act1 t (ps0 next m)).2.bad=true∧doK act1 t next m=(t,[],next,m)) ∨
 ((pureT act1 t (ps0 next m)).2.bad=false∧doK act1 t next m=((pureT act1 t (ps0 next m)).1,(pureT act1 t (ps0 next m)).2.defs,(pureT act1 t (ps0 next m)).2.next,(pureT act1 t (ps0 next m)).2.m)):=by
 unfold doK
 rw[if_pos hk]
 by_cases h:(pureT act1 t (ps0 next m)).2.bad=true
 ·exact .inl ⟨h,if_pos h⟩
 ·exact .inr ⟨by simpa using h,if_neg h⟩
end M
namespace M
structure LS where
 next:Int
 held:List Tm
 cons:List (List UInt8×Tm)
 ref:Bool
def ofT (op:Int)(l:List Tm)(r:Bool): Tm×Bool:=if r=true then (K0,true) else ((kmake op l).1,decide ((kmake op l).2≠0))
def lfOf (op:Int)(l:List Tm)(st:LS): LS:={ st with ref:=(ofT op l st.ref).2 }
def lfHold (l:List Tm)(st:LS): LS:={ st with held:=st.held++[(ofT 7 l st.ref).1],ref:=(ofT 7 l st.ref).2 }
def lfNew (t:Tm)(st:LS): LS:={ st with next:=st.next+1,cons:=st.cons++[(frName st.next,t)] }
def chA (v c a:Tm)(st:LS): LS:=lfHold [(ofT 5 [c] st.ref).1,(ofT 10 [v,a] (lfOf 5 [c] st).ref).1] (lfOf 10 [v,a] (lfOf 5 [c] st))
def chB (v c b:Tm)(st:LS): LS:=lfHold [c,(ofT 10 [v,b] st.ref).1] (lfOf 10 [v,b] st)
def chosenL (t:Tm)(st:LS): LS:=chB (frT st.next 2) (kat t.kids 0) (kat t.kids 2) (chA (frT st.next 2) (kat t.kids 0) (kat t.kids 1) (lfNew t st))
def szA (v n:Tm)(st:LS): LS:=lfHold [(ofT 20 [n,knumT 0] st.ref).1,(ofT 10 [v,n] (lfOf 20 [n,knumT 0] st).ref).1] (lfOf 10 [v,n] (lfOf 20 [n,knumT 0] st))
def szB (v n:Tm)(st:LS): LS:=
 lfHold [(ofT 21 [n,knumT 0] st.ref).1,(ofT 10 [v,(ofT 14 [n] (lfOf 21 [n,knumT 0] st).ref).1] (lfOf 14 [n] (lfOf 21 [n,knumT 0] st)).ref).1]
  (lfOf 10 [v,(ofT 14 [n] (lfOf 21 [n,knumT 0] st).ref).1] (lfOf 14 [n] (lfOf 21 [n,knumT 0] st)))
def sizeL (t:Tm)(st:LS): LS:=szB (frT st.next 2) (kat t.kids 0) (szA (frT st.next 2) (kat t.kids 0) (lfNew t st))
def lfAct (t:Tm)(st:LS): Tm×LS:=if t.op=18 then (frT st.next 2,sizeL t st) else if t.op=12∧t.sort=2 then (frT st.next 2,chosenL t st) else (t,st)
mutual
def lfT:Tm→LS→Tm×LS
 | .mk op g ls nm s ks,st=>lfAct (.mk op g ls nm s (lfTs ks st).1) (lfTs ks st).2
def lfTs:List Tm→LS→List Tm×LS
 | [],st=>([],st)
 | t::r,st=>((lfT t st).1::(lfTs r (lfT t st).2).1,(lfTs r (lfT t st).2).2)
end
def overM (m:List Fn)(cs:List (List UInt8×Tm)): List Fn:=cs.foldl (fun m c=>mPut (mRead m) ⟨⟨c.1,[],(mEval m c.2).1⟩,[],mEval m c.2⟩) m
theorem overM_snoc (m:List Fn)(cs:List (List UInt8×Tm))(c:List UInt8×Tm): overM m (cs++[c])=mPut (mRead (overM m cs)) ⟨⟨c.1,[],(mEval (overM m cs) c.2).1⟩,[],mEval (overM m cs) c.2⟩:=by
 unfold overM;rw[List.foldl_append];rfl
theorem ofT_ref {op:Int}{l:List Tm}: ofT op l true=(K0,true):=by unfold ofT;rw[if_pos rfl]
theorem ofT_new {op:Int}{l:List Tm}: ofT op l false=((kmake op l).1,decide ((kmake op l).2≠0)):=by unfold ofT;rw[if_neg (by decide)]
theorem lfOf_ref {op:Int}{l:List Tm}{st:LS}(h:st.ref=true): (lfOf op l st).ref=true:=by unfold lfOf;show (ofT op l st.ref).2=true;rw[h,ofT_ref]
theorem lfHold_ref {l:List Tm}{st:LS}(h:st.ref=true): (lfHold l st).ref=true:=by unfold lfHold;show (ofT 7 l st.ref).2=true;rw[h,ofT_ref]
theorem chA_ref {v c a:Tm}{st:LS}(h:st.ref=true): (chA v c a st).ref=true:=lfHold_ref (lfOf_ref (lfOf_ref h))
theorem chB_ref {v c b:Tm}{st:LS}(h:st.ref=true): (chB v c b st).ref=true:=lfHold_ref (lfOf_ref h)
theorem szA_ref {v n:Tm}{st:LS}(h:st.ref=true): (szA v n st).ref=true:=lfHold_ref (lfOf_ref (lfOf_ref h))
theorem szB_ref {v n:Tm}{st:LS}(h:st.ref=true): (szB v n st).ref=true:=lfHold_ref (lfOf_ref (lfOf_ref (lfOf_ref h)))
theorem lfAct_ref {t:Tm}{st:LS}(h:st.ref=true): (lfAct t st).2.ref=true:=by
 unfold lfAct
 split
 ·exact szB_ref (szA_ref h)
 ·split
  ·exact chB_ref (chA_ref h)
  ·exact h
theorem lfTs_ref:∀(ks:List Tm) (st:LS),(∀(k:Nat) (t:Tm),ks[k]?=some t→∀st:LS,st.ref=true→(lfT t st).2.ref=true)→st.ref=true→(lfTs ks st).2.ref=true
 | [],st,_,h=>by rw[lfTs];exact h
 | t::r,st,ih,h=>by
  rw[lfTs]
  exact lfTs_ref r _ (fun k u hu=>ih (k+1) u (by simpa using hu)) (ih 0 t rfl st h)
theorem lfT_ref (t:Tm): ∀st:LS,st.ref=true→(lfT t st).2.ref=true:=by
 refine Tm.indA (P:=fun t=>∀st:LS,st.ref=true→(lfT t st).2.ref=true) (fun op g ls nm s ks ih st h=>?_) t
 rw[lfT]
 exact lfAct_ref (lfTs_ref ks st ih h)
theorem frT_one (n s:Int): kcnt (frT n s)=1:=by unfold frT;rw[kcnt,kcnts]
theorem lfAct_cnt (t:Tm)(st:LS): kcnt (lfAct t st).1≤kcnt t:=by
 have h1:1≤kcnt t:=by obtain⟨op,g,ls,nm,s,ks⟩:=t;rw[kcnt];omega
 unfold lfAct
 split
 ·rw[frT_one];exact h1
 ·split
  ·rw[frT_one];exact h1
  ·exact Nat.le_refl _
theorem lfTs_cnt:∀(ks:List Tm) (st:LS),(∀(k:Nat) (t:Tm),ks[k]?=some t→∀st:LS,kcnt (lfT t st).1≤kcnt t)→kcnts (lfTs ks st).1≤kcnts ks∧(lfTs ks st).1.length=ks.length
 | [],st,_=>by rw[lfTs];exact⟨Nat.le_refl _,rfl⟩
 | t::r,st,ih=>by
  obtain⟨h1,h2⟩:=lfTs_cnt r (lfT t st).2 (fun k u hu=>ih (k+1) u (by simpa using hu))
  have h3:=ih 0 t rfl st
  rw[lfTs,kcnts,kcnts]
  exact⟨by omega,by rw[List.length_cons,List.length_cons,h2]⟩
theorem lfT_cnt (t:Tm): ∀st:LS,kcnt (lfT t st).1≤kcnt t:=by
 refine Tm.indA (P:=fun t=>∀st:LS,kcnt (lfT t st).1≤kcnt t) (fun op g ls nm s ks ih st=>?_) t
 rw[lfT]
 refine Nat.le_trans (lfAct_cnt _ _) ?_
 rw[kcnt,kcnt]
 have:=(lfTs_cnt ks st ih).1
 omega
theorem lfTs_len (ks:List Tm)(st:LS): (lfTs ks st).1.length=ks.length:=(lfTs_cnt ks st fun k t _=>lfT_cnt t).2
def Sim (m0:List Fn)(st:LS)(ps:PS): Prop:=ps.next=st.next∧ps.defs=st.held∧ps.m=overM m0 st.cons
theorem chA_ok {v c a:Tm}{st:LS}(h:st.ref=false): ((chA v c a st).ref=false↔(kmake 5 [c]).2=0∧(kmake 10 [v,a]).2=0∧(kmake 7 [(kmake 5 [c]).1,(kmake 10 [v,a]).1]).2=0) ∧
 ((chA v c a st).ref=false→chA v c a st={ st with held:=st.held++[(kmake 7 [(kmake 5 [c]).1,(kmake 10 [v,a]).1]).1] }):=by
 obtain⟨n,hl,cs,r⟩:=st
 obtain rfl:r=false:=h
 by_cases h1:(kmake 5 [c]).2=0
 ·by_cases h2:(kmake 10 [v,a]).2=0
  ·by_cases h3:(kmake 7 [(kmake 5 [c]).1,(kmake 10 [v,a]).1]).2=0
   ·simp[chA,lfHold,lfOf,ofT,h1,h2,h3]
   ·simp[chA,lfHold,lfOf,ofT,h1,h2,h3]
  ·simp[chA,lfHold,lfOf,ofT,h1,h2]
 ·simp[chA,lfHold,lfOf,ofT,h1]
theorem chB_ok {v c b:Tm}{st:LS}(h:st.ref=false): ((chB v c b st).ref=false↔(kmake 10 [v,b]).2=0∧(kmake 7 [c,(kmake 10 [v,b]).1]).2=0) ∧
 ((chB v c b st).ref=false→chB v c b st={ st with held:=st.held++[(kmake 7 [c,(kmake 10 [v,b]).1]).1] }):=by
 obtain⟨n,hl,cs,r⟩:=st
 obtain rfl:r=false:=h
 by_cases h1:(kmake 10 [v,b]).2=0
 ·by_cases h2:(kmake 7 [c,(kmake 10 [v,b]).1]).2=0
  ·simp[chB,lfHold,lfOf,ofT,h1,h2]
  ·simp[chB,lfHold,lfOf,ofT,h1,h2]
 ·simp[chB,lfHold,lfOf,ofT,h1]
theorem szA_ok {v n:Tm}{st:LS}(h:st.ref=false): ((szA v n st).ref=false↔(kmake 20 [n,knumT 0]).2=0∧(kmake 10 [v,n]).2=0∧(kmake 7 [(kmake 20 [n,knumT 0]).1,(kmake 10 [v,n]).1]).2=0) ∧
 ((szA v n st).ref=false→szA v n st={ st with held:=st.held++[(kmake 7 [(kmake 20 [n,knumT 0]).1,(kmake 10 [v,n]).1]).1] }):=by
 obtain⟨nx,hl,cs,r⟩:=st
 obtain rfl:r=false:=h
 by_cases h1:(kmake 20 [n,knumT 0]).2=0
 ·by_cases h2:(kmake 10 [v,n]).2=0
  ·by_cases h3:(kmake 7 [(kmake 20 [n,knumT 0]).1,(kmake 10 [v,n]).1]).2=0
   ·simp[szA,lfHold,lfOf,ofT,h1,h2,h3]
   ·simp[szA,lfHold,lfOf,ofT,h1,h2,h3]
  ·simp[szA,lfHold,lfOf,ofT,h1,h2]
 ·simp[szA,lfHold,lfOf,ofT,h1]
theorem szB_ok {v n:Tm}{st:LS}(h:st.ref=false): ((szB v n st).ref=false↔(kmake 21 [n,knumT 0]).2=0∧(kmake 14 [n]).2=0∧(kmake 10 [v,(kmake 14 [n]).1]).2=0∧(kmake 7 [(kmake 21 [n,knumT 0]).1,(kmake 10 [v,(kmake 14 [n]).1]).1]).2=0) ∧
 ((szB v n st).ref=false→szB v n st={ st with held:=st.held++[(kmake 7 [(kmake 21 [n,knumT 0]).1,(kmake 10 [v,(kmake 14 [n]).1]).1]).1] }):=by
 obtain⟨nx,hl,cs,r⟩:=st
 obtain rfl:r=false:=h
 by_cases h1:(kmake 21 [n,knumT 0]).2=0
 ·by_cases h0:(kmake 14 [n]).2=0
  ·by_cases h2:(kmake 10 [v,(kmake 14 [n]).1]).2=0
   ·by_cases h3:(kmake 7 [(kmake 21 [n,knumT 0]).1,(kmake 10 [v,(kmake 14 [n]).1]).1]).2=0
    ·simp[szB,lfHold,lfOf,ofT,h0,h1,h2,h3]
    ·simp[szB,lfHold,lfOf,ofT,h0,h1,h2,h3]
   ·simp[szB,lfHold,lfOf,ofT,h0,h1,h2]
  ·simp[szB,lfHold,lfOf,ofT,h0,h1]
 ·simp[szB,lfHold,lfOf,ofT,h1]
theorem ref_no {b:Bool}(h:¬b=true): b=false:=by simpa using h
theorem lfAct_sim {m0:List Fn}{t:Tm}{st:LS}{ps:PS}(h:Sim m0 st ps)(hr:st.ref=false)(hb:ps.bad=false): (lfAct t st).2.ref=(act1 t ps).2.bad∧((act1 t ps).2.bad=false→(lfAct t st).1=(act1 t ps).1∧Sim m0 (lfAct t st).2 (act1 t ps).2):=by
 obtain⟨s1,s2,s3⟩:=h
 obtain⟨dn,nx,bd,pm⟩:=ps
 obtain rfl:bd=false:=hb
 obtain rfl:nx=st.next:=s1
 obtain rfl:dn=st.held:=s2
 obtain rfl:pm=overM m0 st.cons:=s3
 have hnr:(lfNew t st).ref=false:=hr
 by_cases h18:t.op=18
 ·have h12:¬(t.op=12∧t.sort=2):=fun h=>by rw[h18] at h;exact absurd h.1 (by decide)
  unfold lfAct act1
  rw[if_pos h18,if_neg h12,if_pos h18]
  obtain⟨a1,a2⟩:=szA_ok (v:=frT st.next 2) (n:=kat t.kids 0) hnr
  have key:(sizeL t st).ref=false↔(absDefs (frT st.next 2) (kat t.kids 0)).2=false:=by
   unfold absDefs
   simp only[Bool.or_eq_false_iff,decide_eq_false_iff_not,Decidable.not_not]
   constructor
   ·intro hq
    have hA:(szA (frT st.next 2) (kat t.kids 0) (lfNew t st)).ref=false:=by
     rcases he:(szA (frT st.next 2) (kat t.kids 0) (lfNew t st)).ref with _|_
     ·rfl
     ·have:=szB_ref (v:=frT st.next 2) (n:=kat t.kids 0) he
      unfold sizeL at hq;rw[this] at hq;cases hq
    obtain⟨e1,e2,e3⟩:=a1.1 hA
    obtain⟨f1,f2,f3,f4⟩:=(szB_ok (v:=frT st.next 2) (n:=kat t.kids 0) hA).1.1 hq
    exact⟨⟨⟨⟨⟨⟨e1,e2⟩,e3⟩,f1⟩,f2⟩,f3⟩,f4⟩
   ·rintro⟨⟨⟨⟨⟨⟨e1,e2⟩,e3⟩,f1⟩,f2⟩,f3⟩,f4⟩
    exact(szB_ok (v:=frT st.next 2) (n:=kat t.kids 0) (a1.2 ⟨e1,e2,e3⟩)).1.2 ⟨f1,f2,f3,f4⟩
  refine⟨?_,fun hbd=>⟨rfl,?_⟩⟩
  ·show (sizeL t st).ref=(false||(absDefs (frT st.next 2) (kat t.kids 0)).2)
   rw[Bool.false_or]
   rcases hq:(absDefs (frT st.next 2) (kat t.kids 0)).2 with _|_
   ·exact key.2 hq
   ·rcases he:(sizeL t st).ref with _|_
    ·rw[key.1 he] at hq;cases hq
    ·rfl
  ·have hq:(absDefs (frT st.next 2) (kat t.kids 0)).2=false:=by
    have:(false||(absDefs (frT st.next 2) (kat t.kids 0)).2)=false:=hbd
    rwa [Bool.false_or] at this
   have hz:=key.2 hq
   have hA:(szA (frT st.next 2) (kat t.kids 0) (lfNew t st)).ref=false:=by
    rcases he:(szA (frT st.next 2) (kat t.kids 0) (lfNew t st)).ref with _|_
    ·rfl
    ·have:=szB_ref (v:=frT st.next 2) (n:=kat t.kids 0) he
     unfold sizeL at hz;rw[this] at hz;cases hz
   have eB:=(szB_ok (v:=frT st.next 2) (n:=kat t.kids 0) hA).2 hz
   have eA:=a2 hA
   unfold sizeL
   rw[eB,eA]
   refine⟨rfl,?_,?_⟩
   ·show st.held++(absDefs (frT st.next 2) (kat t.kids 0)).1=st.held++[_]++[_]
    rw[List.append_assoc];rfl
   ·exact(overM_snoc m0 st.cons (frName st.next,t)).symm
 ·by_cases h12:t.op=12∧t.sort=2
  ·unfold lfAct act1
   rw[if_neg h18,if_pos h12,if_pos h12]
   obtain⟨a1,a2⟩:=chA_ok (v:=frT st.next 2) (c:=kat t.kids 0) (a:=kat t.kids 1) hnr
   have hAof:(chosenL t st).ref=false→(chA (frT st.next 2) (kat t.kids 0) (kat t.kids 1) (lfNew t st)).ref=false:=fun hq=>by
    rcases he:(chA (frT st.next 2) (kat t.kids 0) (kat t.kids 1) (lfNew t st)).ref with _|_
    ·rfl
    ·have:=chB_ref (v:=frT st.next 2) (c:=kat t.kids 0) (b:=kat t.kids 2) he
     unfold chosenL at hq;rw[this] at hq;cases hq
   have key:(chosenL t st).ref=false↔(iteDefs (frT st.next 2) (kat t.kids 0) (kat t.kids 1) (kat t.kids 2)).2=false:=by
    unfold iteDefs
    simp only[Bool.or_eq_false_iff,decide_eq_false_iff_not,Decidable.not_not]
    constructor
    ·intro hq
     obtain⟨e1,e2,e3⟩:=a1.1 (hAof hq)
     obtain⟨f1,f2⟩:=(chB_ok (v:=frT st.next 2) (c:=kat t.kids 0) (b:=kat t.kids 2) (hAof hq)).1.1 hq
     exact⟨⟨⟨⟨e1,e2⟩,e3⟩,f1⟩,f2⟩
    ·rintro⟨⟨⟨⟨e1,e2⟩,e3⟩,f1⟩,f2⟩
     exact(chB_ok (v:=frT st.next 2) (c:=kat t.kids 0) (b:=kat t.kids 2) (a1.2 ⟨e1,e2,e3⟩)).1.2 ⟨f1,f2⟩
   refine⟨?_,fun hbd=>⟨rfl,?_⟩⟩
   ·show (chosenL t st).ref=(false||(iteDefs (frT st.next 2) (kat t.kids 0) (kat t.kids 1) (kat t.kids 2)).2)
    rw[Bool.false_or]
    rcases hq:(iteDefs (frT st.next 2) (kat t.kids 0) (kat t.kids 1) (kat t.kids 2)).2 with _|_
    ·exact key.2 hq
    ·rcases he:(chosenL t st).ref with _|_
     ·rw[key.1 he] at hq;cases hq
     ·rfl
   ·have hq:(iteDefs (frT st.next 2) (kat t.kids 0) (kat t.kids 1) (kat t.kids 2)).2=false:=by
     have:(false||(iteDefs (frT st.next 2) (kat t.kids 0) (kat t.kids 1) (kat t.kids 2)).2)=false:=hbd
     rwa [Bool.false_or] at this
    have hz:=key.2 hq
    have hA:=hAof hz
    have eB:=(chB_ok (v:=frT st.next 2) (c:=kat t.kids 0) (b:=kat t.kids 2) hA).2 hz
    have eA:=a2 hA
    unfold chosenL
    rw[eB,eA]
    refine⟨rfl,?_,?_⟩
    ·show st.held++(iteDefs (frT st.next 2) (kat t.kids 0) (kat t.kids 1) (kat t.kids 2)).1=st.held++[_]++[_]
     rw[List.append_assoc];rfl
    ·exact(overM_snoc m0 st.cons (frName st.next,t)).symm
  ·unfold lfAct act1
   rw[if_neg h18,if_neg h12,if_neg h12,if_neg h18]
   exact⟨hr,fun _=>⟨rfl,rfl,rfl,rfl⟩⟩
def SimT (m0:List Fn)(t:Tm): Prop:=∀(st:LS) (ps:PS),Sim m0 st ps→st.ref=false→ps.bad=false→kcnt t≤400→(lfT t st).2.ref=(pureT act1 t ps).2.bad∧((pureT act1 t ps).2.bad=false→(lfT t st).1=(pureT act1 t ps).1∧Sim m0 (lfT t st).2 (pureT act1 t ps).2)
theorem lfTs_sim {m0:List Fn}: ∀(ks:List Tm) (st:LS) (ps:PS),(∀(k:Nat) (t:Tm),ks[k]?=some t→SimT m0 t)→Sim m0 st ps→st.ref=false→ps.bad=false→kcnts ks≤400 →
 (lfTs ks st).2.ref=(pureTs act1 ks ps).2.bad∧((pureTs act1 ks ps).2.bad=false→(lfTs ks st).1=(pureTs act1 ks ps).1∧Sim m0 (lfTs ks st).2 (pureTs act1 ks ps).2)
 | [],st,ps,_,h,hr,hb,_=>by rw[lfTs,pureTs];exact⟨by rw[hr,hb],fun _=>⟨rfl,h⟩⟩
 | t::r,st,ps,ih,h,hr,hb,hc=>by
  rw[kcnts] at hc
  obtain⟨a1,a2⟩:=ih 0 t rfl st ps h hr hb (by omega)
  rw[lfTs,pureTs_cons hb]
  rcases hq:(pureT act1 t ps).2.bad with _|_
  ·obtain⟨e1,e2⟩:=a2 hq
   rw[hq] at a1
   obtain⟨b1,b2⟩:=lfTs_sim r _ _ (fun k u hu=>ih (k+1) u (by simpa using hu)) e2 a1 hq (by omega)
   refine⟨b1,fun hbd=>?_⟩
   obtain⟨f1,f2⟩:=b2 hbd
   exact⟨by rw[e1,f1],f2⟩
  ·rw[hq] at a1
   rw[pureTs_bad hq]
   refine⟨?_,fun hbd=>?_⟩
   ·rw[lfTs_ref r _ (fun k u _=>lfT_ref u) a1];exact hq.symm
   ·rw[hq] at hbd;cases hbd
theorem lfT_sim {m0:List Fn}(t:Tm): SimT m0 t:=by
 refine Tm.indA (P:=fun t=>SimT m0 t) (fun op g ls nm s ks ih st ps h hr hb hc=>?_) t
 rw[kcnt] at hc
 obtain⟨a1,a2⟩:=lfTs_sim ks st ps ih h hr hb (by omega)
 have hcn:=(lfTs_cnt ks st fun k t _=>lfT_cnt t).1
 rw[lfT]
 rcases hq:(pureTs act1 ks ps).2.bad with _|_
 ·obtain⟨e1,e2⟩:=a2 hq
  rw[hq] at a1
  have hp:pureT act1 (.mk op g ls nm s ks) ps=act1 (.mk op g ls nm s (pureTs act1 ks ps).1) (pureTs act1 ks ps).2:=by
   rw[pureT,if_neg (by rw[hq];decide),if_neg]
   rintro⟨-,h4⟩
   rw[←e1,kcnt] at h4
   omega
  rw[hp,←e1]
  exact lfAct_sim e2 a1 hq
 ·rw[hq] at a1
  have hp:(pureT act1 (.mk op g ls nm s ks) ps).2=(pureTs act1 ks ps).2:=by rw[pureT,if_pos hq]
  rw[hp,hq]
  exact⟨lfAct_ref a1,fun h=>by cases h⟩
def ls0 (next:Int): LS:=⟨next,[],[],false⟩
def lifted (t:Tm)(next:Int): Tm×LS:=if kIs t=true∧(lfT t (ls0 next)).2.ref=false then lfT t (ls0 next) else (t,ls0 next)
theorem lifted_do {t:Tm}{next:Int}{m:List Fn}: doK act1 t next m=((lifted t next).1,(lifted t next).2.held,(lifted t next).2.next,overM m (lifted t next).2.cons):=by
 unfold doK lifted
 by_cases hk:kIs t=true
 ·rw[if_pos hk]
  obtain⟨a1,a2⟩:=lfT_sim (m0:=m) t (ls0 next) ⟨[],next,false,m⟩ ⟨rfl,rfl,rfl⟩ rfl rfl (kIs_parts hk).1
  by_cases hq:(pureT act1 t ⟨[],next,false,m⟩).2.bad=true
  ·rw[if_pos hq,if_neg (by rintro⟨-,h⟩;rw[a1,hq] at h;cases h)];rfl
  ·rw[if_neg hq,if_pos ⟨hk,by rw[a1];exact ref_no hq⟩]
   obtain⟨e1,e2,e3,e4⟩:=a2 (ref_no hq)
   rw[e1,e2,e3,e4]
 ·rw[if_neg hk,if_neg fun h=>hk h.1];rfl
end M
end Go.Proofs.YtoenjbkmiphhoaaGreatDoor.Q
