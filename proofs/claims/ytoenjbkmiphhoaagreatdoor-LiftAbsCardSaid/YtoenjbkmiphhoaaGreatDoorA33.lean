/-
  Layers 13 to 15: pure terms as the reference makes them, mathematics.
-/
import Derived.Test.YtoenjbkmiphhoaaGreatDoorA32
namespace Go.Proofs.YtoenjbkmiphhoaaGreatDoor.Q
set_option linter.unusedSimpArgs false
set_option linter.unusedVariables false
open Go.RowKit
namespace M
structure PS where
 defs:List Tm
 next:Int
 bad:Bool
 m:List Fn
def frName (n:Int): List UInt8:=33::Go.Lib.decDigits (max 0 n).toNat
def frT (n s:Int): Tm:=.mk 4 false [] (frName n) s []
mutual
def pureT (act:Tm→PS→Tm×PS): Tm→PS→Tm×PS
 | .mk op g ls nm s ks,st=>
  if (pureTs act ks st).2.bad=true then (.mk op g ls nm s ks,(pureTs act ks st).2)
  else if ks≠[]∧400<kcnt (.mk op g ls nm s (pureTs act ks st).1) then (.mk op g ls nm s ks,{ (pureTs act ks st).2 with bad:=true })
  else act (.mk op g ls nm s (pureTs act ks st).1) (pureTs act ks st).2
def pureTs (act:Tm→PS→Tm×PS): List Tm→PS→List Tm×PS
 | [],st=>([],st)
 | t::r,st=>if st.bad=true then ([],st) else ((pureT act t st).1::(pureTs act r (pureT act t st).2).1,(pureTs act r (pureT act t st).2).2)
end
def psNew (st:PS)(v:Vl): PS:={ st with next:=st.next+1,m:=mPut (mRead st.m) ⟨⟨frName st.next,[],v.1⟩,[],v⟩ }
def psDefs (st:PS)(l:List Tm)(e:Bool): PS:={ st with defs:=st.defs++l,bad:=st.bad||e }
def iteDefs (v c a b:Tm): List Tm×Bool:=
 ([(kmake 7 [(kmake 5 [c]).1,(kmake 10 [v,a]).1]).1,(kmake 7 [c,(kmake 10 [v,b]).1]).1],
  decide ((kmake 5 [c]).2≠0)||decide ((kmake 10 [v,a]).2≠0)||decide ((kmake 7 [(kmake 5 [c]).1,(kmake 10 [v,a]).1]).2≠0)||decide ((kmake 10 [v,b]).2≠0)||decide ((kmake 7 [c,(kmake 10 [v,b]).1]).2≠0))
def absDefs (v a:Tm): List Tm×Bool:=
 ([(kmake 7 [(kmake 20 [a,knumT 0]).1,(kmake 10 [v,a]).1]).1,(kmake 7 [(kmake 21 [a,knumT 0]).1,(kmake 10 [v,(kmake 14 [a]).1]).1]).1],
  decide ((kmake 20 [a,knumT 0]).2≠0)||decide ((kmake 10 [v,a]).2≠0)||decide ((kmake 7 [(kmake 20 [a,knumT 0]).1,(kmake 10 [v,a]).1]).2≠0)||decide ((kmake 21 [a,knumT 0]).2≠0)||decide ((kmake 14 [a]).2≠0)
  || decide ((kmake 10 [v,(kmake 14 [a]).1]).2≠0)||decide ((kmake 7 [(kmake 21 [a,knumT 0]).1,(kmake 10 [v,(kmake 14 [a]).1]).1]).2≠0))
def act1 (t:Tm)(st:PS): Tm×PS:=
 if t.op=12∧t.sort=2 then
  (frT st.next 2,psDefs (psNew st (mEval st.m t)) (iteDefs (frT st.next 2) (kat t.kids 0) (kat t.kids 1) (kat t.kids 2)).1 (iteDefs (frT st.next 2) (kat t.kids 0) (kat t.kids 1) (kat t.kids 2)).2)
 else if t.op=18 then
  (frT st.next 2,psDefs (psNew st (mEval st.m t)) (absDefs (frT st.next 2) (kat t.kids 0)).1 (absDefs (frT st.next 2) (kat t.kids 0)).2)
 else (t,st)
def doK (act:Tm→PS→Tm×PS)(t:Tm)(next:Int)(m:List Fn): Tm×List Tm×Int×List Fn:=
 if kIs t=true then (if (pureT act t ⟨[],next,false,m⟩).2.bad=true then (t,[],next,m) else ((pureT act t ⟨[],next,false,m⟩).1,(pureT act t ⟨[],next,false,m⟩).2.defs,(pureT act t ⟨[],next,false,m⟩).2.next,(pureT act t ⟨[],next,false,m⟩).2.m))
 else (t,[],next,m)
mutual
def has1:Tm→Bool
 | .mk op _ _ _ s ks=>(decide (op=12)&&decide (s=2))||decide (op=18)||has1s ks
def has1s:List Tm→Bool
 | []=>false
 | t::r=>has1 t||has1s r
end
end M
namespace M
structure Like (us ks:List Tm): Prop where
 len:us.length=ks.length
 at_:∀(k:Nat) (u t:Tm),us[k]?=some u→ks[k]?=some t→kis u=true∧u.sort=t.sort∧∀z,knum t=some z→u=t
theorem Like.nil:Like [] []:=⟨rfl,fun k u t h=>by simp at h⟩
theorem Like.cons {u t:Tm}{us ks:List Tm}(h:kis u=true∧u.sort=t.sort∧∀z,knum t=some z→u=t)(r:Like us ks): Like (u::us) (t::ks):=by
 refine⟨by simp[r.len],fun k a b ha hb=>?_⟩
 match k with
 | 0=>simp at ha hb;subst ha hb;exact h
 | k+1=>exact r.at_ k a b (by simpa using ha) (by simpa using hb)
section
variable {us ks:List Tm} (L:Like us ks)
include L
theorem Like.sorts:us.map Tm.sort=ks.map Tm.sort:=by
 refine List.ext_getElem? fun k=>?_;rw[List.getElem?_map,List.getElem?_map];rcases Nat.lt_or_ge k ks.length with h|h
 ·have h':k<us.length:=by rw[L.len];exact h
  rw[List.getElem?_eq_getElem h,List.getElem?_eq_getElem h'];exact congrArg some (L.at_ k _ _ (List.getElem?_eq_getElem h') (List.getElem?_eq_getElem h)).2.1
 ·rw[List.getElem?_eq_none h,List.getElem?_eq_none (by rw[L.len];exact h)]
theorem Like.kis_:kiss us=true:=by
 have h:∀(l:List Tm),(∀(k:Nat) (u:Tm),l[k]?=some u→kis u=true)→kiss l=true:=by
  intro l
  induction l with
  | nil=>intro _;rw[kiss]
  | cons x r ih=>
   intro hl;rw[kiss,hl 0 x rfl,ih (fun k u hu=>hl (k+1) u (by simpa using hu))];rfl
 refine h us fun k u hu=>?_;have hk:k<ks.length:=by rw[←L.len];exact(List.getElem?_eq_some_iff.1 hu).1
 exact(L.at_ k u _ hu (List.getElem?_eq_getElem hk)).1
theorem Like.kat_sort (k:Nat): (kat us k).sort=(kat ks k).sort:=by
 have h:∀l:List Tm,(kat l k).sort=(l.map Tm.sort).getD k K0.sort:=fun l=>by
  unfold kat;rw[List.getD_eq_getElem?_getD,List.getD_eq_getElem?_getD,List.getElem?_map];cases l[k]?<;>rfl
 rw[h,h,L.sorts]
theorem Like.kall_ (s:Int): kall us s=kall ks s:=by
 have h:∀l:List Tm,kall l s=(l.map Tm.sort).all fun a=>decide (a=s):=fun l=>by
  unfold kall;rw[List.all_map];rfl
 rw[h,h,L.sorts]
theorem Like.ksorted_ (op:Int): ksorted op us=ksorted op ks:=by
 unfold ksorted;rw[L.kall_,L.kall_,L.kall_,L.kat_sort 0,L.kat_sort 1,L.kat_sort 2]
theorem Like.kat_num {k:Nat}{z:Int}(h:knum (kat ks k)=some z): kat us k=kat ks k:=by
 unfold kat at h ⊢;rw[List.getD_eq_getElem?_getD] at h ⊢;rw[List.getD_eq_getElem?_getD];rcases Nat.lt_or_ge k ks.length with hk|hk
 ·have h':k<us.length:=by rw[L.len];exact hk
  rw[List.getElem?_eq_getElem hk] at h ⊢;rw[List.getElem?_eq_getElem h'];exact(L.at_ k _ _ (List.getElem?_eq_getElem h') (List.getElem?_eq_getElem hk)).2.2 z h
 ·rw[List.getElem?_eq_none hk,List.getElem?_eq_none (by rw[L.len];exact hk)]
theorem Like.klin_ {op:Int}(h:klin op ks=0): klin op us=0:=by
 unfold klin at h ⊢
 by_cases h15:op=15
 ·rw[if_pos h15] at h ⊢;rcases h0:knum (kat ks 0) with _|z
  ·rcases h1:knum (kat ks 1) with _|z
   ·rw[h0,h1] at h;simp at h
   ·rw[L.kat_num h1,h1];simp
  ·rw[L.kat_num h0,h0];simp
 ·rw[if_neg h15] at h ⊢
  by_cases h16:op=16∨op=17
  ·rw[if_pos h16] at h ⊢;rcases h1:knum (kat ks 1) with _|z
   ·rw[h1] at h;simp at h
   ·rw[L.kat_num h1,h1];rw[h1] at h;exact h
  ·rw[if_neg h16]
theorem Like.kres_ (op:Int): kres op us=kres op ks:=by
 unfold kres;rw[L.kat_sort 1]
theorem Like.kcheck_ {op:Int}(h:kcheck op ks=0)(hc:1+kcnts us≤400): kcheck op us=0:=by
 have hs:ksorted op ks=true:=by
  unfold kcheck at h
  split at h
  ·simp at h
  ·rename_i hq;simpa using hq
 refine kcheck_of (by rw[L.ksorted_];exact hs) (L.klin_ (kcheck_lin h)) hc
theorem Like.khead_ {op:Int}{g:Bool}{ls:List Nat}{nm:List UInt8}{s:Int}(h:khead op g ls nm s ks=true)(hc:1+kcnts us≤400): khead op g ls nm s us=true:=by
 have he:us.isEmpty=ks.isEmpty:=by
  have:=L.len;cases us<;>cases ks<;>simp_all
 unfold khead at h ⊢
 by_cases h1:op=1
 ·rw[if_pos h1] at h ⊢;rw[he];exact h
 rw[if_neg h1] at h ⊢
 by_cases h2:op=2∨op=3
 ·rw[if_pos h2] at h ⊢;rw[he];exact h
 rw[if_neg h2] at h ⊢
 by_cases h4:op=4
 ·rw[if_pos h4] at h ⊢;rw[L.len];exact h
 rw[if_neg h4] at h ⊢;simp only[Bool.and_eq_true,decide_eq_true_eq] at h ⊢;obtain⟨ha,hb,hd,he',hf,hg⟩:=h;exact⟨ha,hb,hd,by rw[L.len];exact he',L.kcheck_ hf hc,by rw[L.kres_];exact hg⟩
theorem Like.kis_mk_ {op:Int}{g:Bool}{ls:List Nat}{nm:List UInt8}{s:Int}(h:kis (.mk op g ls nm s ks)=true)(hc:kcnt (.mk op g ls nm s us)≤400): kis (.mk op g ls nm s us)=true:=by
 rw[kcnt] at hc;rw[kis_mk,Bool.and_eq_true] at h ⊢;exact⟨L.kis_,L.khead_ h.2 hc⟩
end
theorem ev_like {m:List Fn}{us ks:List Tm}(h:evs m us=evs m ks)(op:Int)(g:Bool)(ls:List Nat)(nm:List UInt8)(s:Int): ev m (.mk op g ls nm s us)=ev m (.mk op g ls nm s ks):=by
 rw[ev,ev,h]
theorem kmake_ok {op:Int}{l:List Tm}(h:(kmake op l).2=0): 5≤op∧op≤22∧kargs op l.length=true∧kIss l=true∧kcheck op l=0:=by
 unfold kmake at h
 by_cases h1:op<5∨22<op
 ·rw[if_pos h1] at h;simp at h
 rw[if_neg h1] at h
 by_cases h2:kargs op l.length=false
 ·rw[if_pos h2] at h;simp at h
 rw[if_neg h2] at h
 by_cases h3:kIss l=false
 ·rw[if_pos h3] at h;simp at h
 rw[if_neg h3] at h
 by_cases h4:kcheck op l≠0
 ·rw[if_pos h4] at h;exact absurd h h4
 exact⟨by omega,by omega,by simpa using h2,by simpa using h3,by simpa using h4⟩
end M
namespace M
def NodeOk (T:Tm→Prop)(m:List Fn)(t u:Tm)(st st':PS): Prop:=
 kis u=true∧u.sort=t.sort∧(∀z,knum t=some z→u=t∧st'=st)∧∃D,st'.defs=st.defs++D∧((∀d∈D,T d)→ev m u=ev m t)
structure ActOk (act:Tm→PS→Tm×PS)(T:Tm→Prop)(m:List Fn): Prop where
 num:∀out st z,knum out=some z→act out st=(out,st)
 ok:∀out st,st.bad=false→(act out st).2.bad=false→kis out=true→kcnt out≤400→NodeOk T m out (act out st).1 st (act out st).2
section
variable {act:Tm→PS→Tm×PS} {T:Tm→Prop} {m:List Fn}
theorem pureTs_bad {ks:List Tm}{st:PS}(h:st.bad=true): pureTs act ks st=([],st):=by
 cases ks with
 | nil=>rw[pureTs]
 | cons t r=>rw[pureTs,if_pos h]
theorem pureTs_cons {t:Tm}{r:List Tm}{st:PS}(h:st.bad=false): pureTs act (t::r) st=((pureT act t st).1::(pureTs act r (pureT act t st).2).1,(pureTs act r (pureT act t st).2).2):=by
 rw[pureTs,if_neg (by rw[h];decide)]
theorem pures_ok:∀(ks:List Tm) (st:PS),(∀(k:Nat) (t:Tm),ks[k]?=some t→∀st,st.bad=false→kis t=true→kcnt t≤400→(pureT act t st).2.bad=false→NodeOk T m t (pureT act t st).1 st (pureT act t st).2) →
 st.bad=false→kiss ks=true→kcnts ks≤400→(pureTs act ks st).2.bad=false →
 Like (pureTs act ks st).1 ks∧∃D,(pureTs act ks st).2.defs=st.defs++D∧((∀d∈D,T d)→evs m (pureTs act ks st).1=evs m ks)
 | [],st,_,_,_,_,_=>by
  rw[pureTs];exact⟨Like.nil,[],(List.append_nil _).symm,fun _=>rfl⟩
 | t::r,st,ih,hst,hk,hc,hb=>by
  rw[pureTs_cons hst] at hb ⊢;rw[kiss,Bool.and_eq_true] at hk;rw[kcnts] at hc;have hb1:(pureT act t st).2.bad=false:=by
   rcases hq:(pureT act t st).2.bad with _|_
   ·rfl
   ·rw[pureTs_bad hq] at hb;rw[hq] at hb;cases hb
  obtain⟨h1,h2,h3,D1,h4,h5⟩:=ih 0 t rfl st hst hk.1 (by omega) hb1;obtain⟨hL,D2,h6,h7⟩:=pures_ok r (pureT act t st).2 (fun k u hu=>ih (k+1) u (by simpa using hu)) hb1 hk.2 (by omega) hb;refine⟨Like.cons ⟨h1,h2,fun z hz=>(h3 z hz).1⟩ hL,D1++D2,by rw[h6,h4,List.append_assoc],fun hT=>?_⟩;rw[evs,evs,h5 fun d hd=>hT d (List.mem_append_left _ hd),h7 fun d hd=>hT d (List.mem_append_right _ hd)]
theorem pure_mk {op:Int}{g:Bool}{ls:List Nat}{nm:List UInt8}{s:Int}{ks:List Tm}{st:PS}(hb:(pureT act (.mk op g ls nm s ks) st).2.bad=false):
 (pureTs act ks st).2.bad=false∧¬(ks≠[]∧400<kcnt (.mk op g ls nm s (pureTs act ks st).1))∧pureT act (.mk op g ls nm s ks) st=act (.mk op g ls nm s (pureTs act ks st).1) (pureTs act ks st).2:=by
 rw[pureT] at hb ⊢
 by_cases h1:(pureTs act ks st).2.bad=true
 ·rw[if_pos h1,h1] at hb;cases hb
 rw[if_neg h1] at hb ⊢
 by_cases h2:ks≠[]∧400<kcnt (.mk op g ls nm s (pureTs act ks st).1)
 ·rw[if_pos h2] at hb;cases hb
 rw[if_neg h2];exact⟨by simpa using h1,h2,rfl⟩
theorem kcnt_pure {op:Int}{g:Bool}{ls:List Nat}{nm:List UInt8}{s:Int}{ks us:List Tm}(h:¬(ks≠[]∧400<kcnt (.mk op g ls nm s us)))(hl:us.length=ks.length): kcnt (.mk op g ls nm s us)≤400:=by
 by_cases hk:ks=[]
 ·subst hk;have:us=[]:=List.eq_nil_of_length_eq_zero hl;subst this;rw[kcnt,kcnts];decide
 ·exact Nat.le_of_not_lt fun h'=>h ⟨hk,h'⟩
theorem knum_cases {t:Tm}{z:Int}(h:knum t=some z): t.op=1∨t.op=14∧∃k:Tm,t.kids=[k]∧k.op=1:=by
 unfold knum at h
 by_cases h1:t.op=1
 ·exact .inl h1
 rw[if_neg h1] at h
 by_cases h2:t.op=14
 ·rw[if_pos h2] at h;refine .inr ⟨h2,?_⟩
  split at h
  ·rename_i k hk
   by_cases h3:k.op=1
   ·exact⟨k,hk,h3⟩
   ·rw[if_neg h3] at h;cases h
  ·cases h
 ·rw[if_neg h2] at h;cases h
theorem num_leaf {t:Tm}(hk:kis t=true)(h:t.op=1): t.kids=[]:=by
 obtain⟨op,g,ls,nm,s,ks⟩:=t;obtain rfl:op=1:=h;rw[kis_mk,Bool.and_eq_true] at hk;have hh:=hk.2;unfold khead at hh;rw[if_pos rfl] at hh;simp only[Bool.and_eq_true,List.isEmpty_iff] at hh;exact hh.2.2.2
theorem pure_leaf (A:ActOk act T m){t:Tm}{st:PS}(hst:st.bad=false)(hk:kis t=true)(h:t.op=1): pureT act t st=(t,st):=by
 have hkids:=num_leaf hk h;obtain⟨op,g,ls,nm,s,ks⟩:=t;obtain rfl:ks=[]:=hkids;rw[pureT,pureTs,if_neg (by rw[hst];decide),if_neg (by rintro⟨h,-⟩;exact h rfl)];exact A.num _ _ (Tm.mk op g ls nm s []).zv (by unfold knum;rw[if_pos h])
theorem pure_num (A:ActOk act T m){t:Tm}{z:Int}{st:PS}(hst:st.bad=false)(hk:kis t=true)(hc:kcnt t≤400)(h:knum t=some z): pureT act t st=(t,st):=by
 rcases knum_cases h with h1|⟨h1,k,hks,hk1⟩
 ·exact pure_leaf A hst hk h1
 ·obtain⟨op,g,ls,nm,s,ks⟩:=t;obtain rfl:ks=[k]:=hks;have hkk:kis k=true:=by
   rw[kis_mk,kiss,Bool.and_eq_true,Bool.and_eq_true] at hk;exact hk.1.1
  have hp:pureTs act [k] st=([k],st):=by
   rw[pureTs_cons hst,pure_leaf A hst hkk hk1,pureTs]
  rw[pureT,hp,if_neg (by rw[hst];decide),if_neg (by rintro⟨-,h⟩;exact absurd hc (Nat.not_le_of_lt h))];exact A.num _ _ z h
theorem pure_ok (A:ActOk act T m)(t:Tm): ∀st,st.bad=false→kis t=true→kcnt t≤400→(pureT act t st).2.bad=false→NodeOk T m t (pureT act t st).1 st (pureT act t st).2:=by
 refine Tm.indA (P:=fun t=>∀st,st.bad=false→kis t=true→kcnt t≤400→(pureT act t st).2.bad=false→NodeOk T m t (pureT act t st).1 st (pureT act t st).2) (fun op g ls nm s ks ih st hst hk hc hb=>?_) t;obtain⟨h1,h2,h3⟩:=pure_mk hb;have hkk:=hk;rw[kis_mk,Bool.and_eq_true] at hkk;have hcc:=hc;rw[kcnt] at hcc;obtain⟨hL,D1,hD1,hev1⟩:=pures_ok ks st ih hst hkk.1 (by omega) h1;have hcu:=kcnt_pure h2 hL.len;have hku:=hL.kis_mk_ hk hcu;obtain⟨a1,a2,-,D2,hD2,hev2⟩:=A.ok _ _ h1 (by rw[h3] at hb;exact hb) hku hcu;refine⟨by rw[h3];exact a1,by rw[h3];exact a2,fun z hz=>?_,D1++D2,by rw[h3,hD2,hD1,List.append_assoc],fun hT=>?_⟩
 ·rw[pure_num A hst hk hc hz];exact⟨rfl,rfl⟩
 ·rw[h3,hev2 fun d hd=>hT d (List.mem_append_right _ hd)];exact ev_like (hev1 fun d hd=>hT d (List.mem_append_left _ hd)) op g ls nm s
end
end M
namespace M
def isTrue (x:List Fn)(d:Tm): Prop:=vSame (mEval x d) (vTruth true)=true
theorem vHolds_truth (b:Bool): vHolds (vTruth b)=b:=by cases b<;>kernel_rfl
theorem vTruth_true {b:Bool}(h:vSame (vTruth b) (vTruth true)=true): b=true:=by
 cases b
 ·exact absurd h (by decide +kernel)
 ·rfl
theorem kIss_get {l:List Tm}(h:kIss l=true){k:Nat}{t:Tm}(e:l[k]?=some t): kIs t=true:=by
 unfold kIss at h;exact List.all_eq_true.1 h t (List.mem_of_getElem? e)
theorem kIs_parts {t:Tm}(h:kIs t=true): kcnt t≤400∧kis t=true:=by
 unfold kIs at h;rw[Bool.and_eq_true] at h;exact⟨of_decide_eq_true h.1,h.2⟩
theorem mEval_ev {x:List Fn}{t:Tm}(h:kIs t=true): mEval x t=ev (mRead x) t:=by unfold mEval;rw[if_pos h]
theorem eval_bool {op:Int}{l:List Tm}(x:List Fn)(h:(kmake op l).2=0)(h12:op≠12)(hr:¬(13≤op∧op≤18)): mEval x (kmake op l).1=vTruth (mTold op (l.map (mEval x))):=by
 obtain⟨h1,h2,ha,hl,hc⟩:=kmake_ok h;rw[eval_mk x h1 h2 h12 ha hl hc,if_neg];unfold kres;rw[if_neg (by omega),if_neg h12];decide
theorem eval_or {a b:Tm}(x:List Fn)(h:(kmake 7 [a,b]).2=0): mEval x (kmake 7 [a,b]).1=vTruth (vHolds (mEval x a)||vHolds (mEval x b)):=by
 rw[eval_bool x h (by decide) (by decide)];show vTruth ([mEval x a,mEval x b].any vHolds)=_;simp
theorem eval_not {a:Tm}(x:List Fn)(h:(kmake 5 [a]).2=0): mEval x (kmake 5 [a]).1=vTruth (!vHolds (mEval x a)):=by
 rw[eval_bool x h (by decide) (by decide)];rfl
theorem eval_eq {a b:Tm}(x:List Fn)(h:(kmake 10 [a,b]).2=0): mEval x (kmake 10 [a,b]).1=vTruth (vSame (mEval x a) (mEval x b)):=by
 rw[eval_bool x h (by decide) (by decide)];rfl
theorem eval_lt {a b:Tm}(x:List Fn)(h:(kmake 20 [a,b]).2=0): mEval x (kmake 20 [a,b]).1=vTruth (decide (cz (mEval x a)<cz (mEval x b))):=by
 rw[eval_bool x h (by decide) (by decide)];rfl
theorem eval_ge {a b:Tm}(x:List Fn)(h:(kmake 21 [a,b]).2=0): mEval x (kmake 21 [a,b]).1=vTruth (decide (cz (mEval x b)≤cz (mEval x a))):=by
 rw[eval_bool x h (by decide) (by decide)];rfl
theorem eval_neg {a:Tm}(x:List Fn)(h:(kmake 14 [a]).2=0): mEval x (kmake 14 [a]).1=vz 2 (-cz (mEval x a)):=by
 obtain⟨h1,h2,ha,hl,hc⟩:=kmake_ok h;rw[eval_mk x h1 h2 (by decide) ha hl hc,if_pos (kres_two (by decide))];rfl
theorem same_eq {a b:Vl}(ha:vIs a 2=true)(hb:vIs b 2=true)(h:vSame a b=true): a=b:=by
 have h2:cz a=cz b:=by
  unfold vSame at h;rw[Bool.and_eq_true] at h;exact of_decide_eq_true h.2
 rw[vIs_eq ha,vIs_eq hb,h2]
theorem knum0 (x:List Fn): mEval x (knumT 0)=vz 2 0:=by
 have h:kIs (knumT 0)=true:=by kernel_rfl
 rw[mEval_ev h,knumT,ev,if_pos rfl];rfl
theorem bad_or {a b:Bool}(h:(a||b)=false): a=false∧b=false:=by simpa using h
theorem no_err {z:Int}(h:decide (z≠0)=false): z=0:=by simpa using h
theorem act1_ok (x:List Fn): ActOk act1 (isTrue x) (mRead x):=by
 refine⟨fun out st z h=>?_,fun out st hst hb hk hc=>?_⟩
 ·unfold act1;rcases knum_cases h with h1|⟨h1,-⟩
  ·rw[if_neg (by omega),if_neg (by omega)]
  ·rw[if_neg (by omega),if_neg (by omega)]
 ·obtain⟨op,g,ls,nm,s,ks⟩:=out
  by_cases h12:op=12∧s=2
  ·obtain⟨rfl,rfl⟩:=h12;have hh:=hk;rw[kis_mk,Bool.and_eq_true] at hh;obtain⟨-,-,hargs,hcheck,hres⟩:=khead_op hh.2 (by decide) (by decide) (by decide) (by decide);obtain⟨c,a,b,rfl⟩:=three_of (kargs_three hargs);unfold act1 at hb ⊢;rw[if_pos (show (Tm.mk 12 g ls nm 2 [c,a,b]).op=12∧(Tm.mk 12 g ls nm 2 [c,a,b]).sort=2 from⟨rfl,rfl⟩)] at hb ⊢;replace hb:(st.bad||(iteDefs (frT st.next 2) c a b).2)=false:=hb;obtain⟨-,hb2⟩:=bad_or hb;unfold iteDefs at hb2;obtain⟨hb2,e5⟩:=bad_or hb2;obtain⟨hb2,e4⟩:=bad_or hb2;obtain⟨hb2,e3⟩:=bad_or hb2;obtain⟨e1,e2⟩:=bad_or hb2;replace e1:=no_err e1;replace e2:=no_err e2;replace e3:=no_err e3;replace e4:=no_err e4;replace e5:=no_err e5;obtain⟨-,-,-,l2,-⟩:=kmake_ok e2;obtain⟨-,-,-,l4,-⟩:=kmake_ok e4;obtain⟨-,-,-,l1,-⟩:=kmake_ok e1;have hv:kIs (frT st.next 2)=true:=kIss_get l2 (k:=0) rfl;have ha:kIs a=true:=kIss_get l2 (k:=1) rfl;have hbb:kIs b=true:=kIss_get l4 (k:=1) rfl;have hcc:kIs c=true:=kIss_get l1 (k:=0) rfl;have hsa:a.sort=2:=by unfold kres at hres;rw[if_neg (by decide),if_pos rfl] at hres;exact hres.symm
   have hsb:b.sort=2:=by
    unfold kcheck at hcheck
    split at hcheck
    ·simp at hcheck
    ·rename_i hq
     have hq':ksorted 12 [c,a,b]=true:=by simpa using hq
     unfold ksorted at hq';rw[if_neg (by decide),if_pos rfl,Bool.and_eq_true] at hq';have:=of_decide_eq_true hq'.2;exact this.symm.trans hsa
   refine⟨(kIs_parts hv).2,rfl,fun z hz=>?_,(iteDefs (frT st.next 2) c a b).1,rfl,fun hT=>?_⟩
   ·rcases knum_cases hz with h|⟨h,-⟩<;>exact absurd (show (12:Int)=_ from h) (by decide)
   ·have t1:isTrue x (kmake 7 [(kmake 5 [c]).1,(kmake 10 [frT st.next 2,a]).1]).1:=hT _ (List.mem_cons_self ..);have t2:isTrue x (kmake 7 [c,(kmake 10 [frT st.next 2,b]).1]).1:=hT _ (List.mem_cons_of_mem _ (List.mem_cons_self ..));unfold isTrue at t1 t2;rw[eval_or x e3,eval_not x e1,eval_eq x e2,vHolds_truth,vHolds_truth] at t1;rw[eval_or x e5,eval_eq x e4,vHolds_truth] at t2;replace t1:=vTruth_true t1;replace t2:=vTruth_true t2;have iv:vIs (mEval x (frT st.next 2)) 2=true:=eval_is hv;have ia:vIs (mEval x a) 2=true:=hsa▸eval_is ha;have ib:vIs (mEval x b) 2=true:=hsb▸eval_is hbb;rw[ev.eq_def (mRead x) (.mk 12 g ls nm 2 [c,a,b])];show ev (mRead x) (frT st.next 2)=_;rw[←mEval_ev hv];simp only[show ¬((12:Int)=1) by decide,show ¬((12:Int)=2) by decide,show ¬((12:Int)=3) by decide,show ¬((12:Int)=4) by decide,if_false,if_true,evs,List.getD_cons_zero,List.getD_cons_succ];rw[←mEval_ev hcc,←mEval_ev ha,←mEval_ev hbb];cases hq:vHolds (mEval x c)
    ·rw[hq,Bool.false_or] at t2;rw[if_neg (by decide)];exact same_eq iv ib t2
    ·rw[hq,Bool.not_true,Bool.false_or] at t1;rw[if_pos rfl];exact same_eq iv ia t1
  ·by_cases h18:op=18
   ·subst h18;have hh:=hk;rw[kis_mk,Bool.and_eq_true] at hh;obtain⟨-,-,hargs,hcheck,hres⟩:=khead_op hh.2 (by decide) (by decide) (by decide) (by decide);obtain⟨a,rfl⟩:=one_of (kargs_one hargs (.inr rfl));have hs2:s=2:=by rw[hres];exact kres_two (by decide)
    subst hs2;unfold act1 at hb ⊢;rw[if_neg (show ¬((Tm.mk 18 g ls nm 2 [a]).op=12∧(Tm.mk 18 g ls nm 2 [a]).sort=2) from h12),if_pos (show (Tm.mk 18 g ls nm 2 [a]).op=18 from rfl)] at hb ⊢;replace hb:(st.bad||(absDefs (frT st.next 2) a).2)=false:=hb;obtain⟨-,hb2⟩:=bad_or hb;unfold absDefs at hb2;obtain⟨hb2,e7⟩:=bad_or hb2;obtain⟨hb2,e6⟩:=bad_or hb2;obtain⟨hb2,e5⟩:=bad_or hb2;obtain⟨hb2,e4⟩:=bad_or hb2;obtain⟨hb2,e3⟩:=bad_or hb2;obtain⟨e1,e2⟩:=bad_or hb2;replace e1:=no_err e1;replace e2:=no_err e2;replace e3:=no_err e3;replace e4:=no_err e4;replace e5:=no_err e5;replace e6:=no_err e6;replace e7:=no_err e7;obtain⟨-,-,-,l2,-⟩:=kmake_ok e2;obtain⟨-,-,-,l6,-⟩:=kmake_ok e6;have hv:kIs (frT st.next 2)=true:=kIss_get l2 (k:=0) rfl;have ha:kIs a=true:=kIss_get l2 (k:=1) rfl;have hsa:a.sort=2:=by
     unfold kcheck at hcheck
     split at hcheck
     ·simp at hcheck
     ·rename_i hq
      have hq':ksorted 18 [a]=true:=by simpa using hq
      unfold ksorted kall at hq';rw[if_neg (by decide),if_neg (by decide),if_neg (by decide)] at hq';simpa using hq'
    refine⟨(kIs_parts hv).2,rfl,fun z hz=>?_,(absDefs (frT st.next 2) a).1,rfl,fun hT=>?_⟩
    ·rcases knum_cases hz with h|⟨h,-⟩<;>exact absurd (show (18:Int)=_ from h) (by decide)
    ·have t1:isTrue x (kmake 7 [(kmake 20 [a,knumT 0]).1,(kmake 10 [frT st.next 2,a]).1]).1:=hT _ (List.mem_cons_self ..);have t2:isTrue x (kmake 7 [(kmake 21 [a,knumT 0]).1,(kmake 10 [frT st.next 2,(kmake 14 [a]).1]).1]).1:=hT _ (List.mem_cons_of_mem _ (List.mem_cons_self ..));unfold isTrue at t1 t2;rw[eval_or x e3,eval_lt x e1,eval_eq x e2,vHolds_truth,vHolds_truth,knum0,cz_vz] at t1;rw[eval_or x e7,eval_ge x e4,eval_eq x e6,vHolds_truth,vHolds_truth,knum0,cz_vz,eval_neg x e5] at t2;replace t1:=vTruth_true t1;replace t2:=vTruth_true t2;have iv:vIs (mEval x (frT st.next 2)) 2=true:=eval_is hv;have ia:vIs (mEval x a) 2=true:=hsa▸eval_is ha;rw[ev.eq_def (mRead x) (.mk 18 g ls nm 2 [a])];show ev (mRead x) (frT st.next 2)=_;rw[←mEval_ev hv];simp only[show ¬((18:Int)=1) by decide,show ¬((18:Int)=2) by decide,show ¬((18:Int)=3) by decide,show ¬((18:Int)=4) by decide,show ¬((18:Int)=12) by decide,if_false,if_true,evs,List.map_cons,List.map_nil];rw[←mEval_ev ha];have hr:mReck 18 [cz (mEval x a)]=((cz (mEval x a)).natAbs:Int):=rfl;rw[hr]
     by_cases hneg:cz (mEval x a)<0
     ·rw[decide_eq_false (show ¬(0≤cz (mEval x a)) by omega),Bool.false_or] at t2;rw[same_eq iv (vIs_vz _) t2];congr 1;omega
     ·rw[decide_eq_false hneg,Bool.false_or] at t1;rw[same_eq iv ia t1,vIs_eq ia,cz_vz];congr 1;omega
   ·unfold act1 at hb ⊢;rw[if_neg (show ¬((Tm.mk op g ls nm s ks).op=12∧(Tm.mk op g ls nm s ks).sort=2) from h12),if_neg (show ¬(Tm.mk op g ls nm s ks).op=18 from h18)];exact⟨hk,rfl,fun z _=>⟨rfl,rfl⟩,[],(List.append_nil _).symm,fun _=>rfl⟩
end M
set_option linter.unusedSimpArgs false
set_option linter.unusedVariables false
open Go.RowKit
namespace M
theorem mOf_put {nm:List UInt8}{m T D:List Fn}(P:Parts nm m T D){f:Fn}(hf:f.sg.name=nm){s:Sg}(hs:nm≠s.name)(vs:List Vl): mOf (T++f::D) s vs=mOf m s vs:=by
 have hne:∀g:Fn,g.sg.name=nm→decide (g.sg=s)=false:=fun g hg=>decide_eq_false fun e=>hs (by rw[←e,hg]);have h1:∀g:Fn,g.sg.name=nm→(T++g::D).find? (fun f=>decide (f.sg=s))=(T++D).find? (fun f=>decide (f.sg=s)):=fun g hg=>by
  rw[List.find?_append,List.find?_append,List.find?_cons,hne g hg]
 have h2:(T++f::D).find? (fun f=>decide (f.sg=s))=m.find? (fun f=>decide (f.sg=s)):=by
  rcases P.eq with e|⟨g,hg,e⟩
  ·rw[e,h1 f hf]
  ·rw[e,h1 f hf,h1 g hg]
 unfold mOf;rw[h2]
theorem ev_put {nm:List UInt8}{m T D:List Fn}(P:Parts nm m T D){f:Fn}(hf:f.sg.name=nm)(t:Tm): kHas nm t=false→ev (T++f::D) t=ev m t:=by
 refine Tm.indA (P:=fun t=>kHas nm t=false→ev (T++f::D) t=ev m t) (fun op g ls n s ks ih h=>?_) t;have hk:evs (T++f::D) ks=evs m ks:=by
  rw[evs_map,evs_map];refine List.map_congr_left fun u hu=>?_;obtain⟨k,hk⟩:=List.getElem?_of_mem hu;exact ih k u hk (kHas_kid h hk)
 rw[ev,ev,hk]
 by_cases h4:op=4
 ·subst h4;rw[mOf_put P hf (s:=⟨n,(evs m ks).map (·.1),s⟩) (kHas_name h)]
 ·rw[if_neg h4,if_neg h4]
theorem vSame_refl (x:Vl): vSame x x=true:=by unfold vSame;simp
end M
end Go.Proofs.YtoenjbkmiphhoaaGreatDoor.Q
