/-
  Package lift, mathematics: how large what the constants stand for is, all of it together.
-/
import Derived.Test.YtoenjbkmiphhoaaGreatDoorA38
namespace Go.Proofs.YtoenjbkmiphhoaaGreatDoor.Q
set_option linter.unusedSimpArgs false
set_option linter.unusedVariables false
open Go.RowKit
namespace M
def ccnt (st:LS): Nat:=kcnts (st.cons.map (·.2))
theorem ccnt_new {t:Tm}{st:LS}: ccnt (lfNew t st)=ccnt st+kcnt t:=by
 unfold ccnt lfNew;show kcnts ((st.cons++[(frName st.next,t)]).map (·.2))=_;rw[List.map_append,kcnts_app];show _+kcnts [t]=_;rw[kcnts,kcnts];omega
theorem ccnt_size {t:Tm}{st:LS}: ccnt (sizeL t st)=ccnt st+kcnt t:=ccnt_new
theorem ccnt_chosen {t:Tm}{st:LS}: ccnt (chosenL t st)=ccnt st+kcnt t:=ccnt_new
theorem lfAct_ccnt {t:Tm}{st:LS}: ccnt (lfAct t st).2+kcnt (lfAct t st).1≤ccnt st+kcnt t+1:=by
 unfold lfAct
 split
 ·show ccnt (sizeL t st)+kcnt (frT st.next 2)≤_;rw[ccnt_size,frT_one];omega
 ·split
  ·show ccnt (chosenL t st)+kcnt (frT st.next 2)≤_;rw[ccnt_chosen,frT_one];omega
  ·show ccnt st+kcnt t≤_;omega
theorem lfTs_ccnt:∀(ks:List Tm) (st:LS),(∀(k:Nat) (t:Tm),ks[k]?=some t→∀st:LS,ccnt (lfT t st).2+kcnt (lfT t st).1≤ccnt st+2*kcnt t)→ccnt (lfTs ks st).2+kcnts (lfTs ks st).1≤ccnt st+2*kcnts ks
 | [],st,_=>by rw[lfTs];show ccnt st+kcnts []≤_;rw[kcnts];omega
 | t::r,st,ih=>by
  have h1:=ih 0 t rfl st;have h2:=lfTs_ccnt r (lfT t st).2 (fun k u hu=>ih (k+1) u (by simpa using hu));rw[lfTs,kcnts,kcnts];show ccnt (lfTs r (lfT t st).2).2+(kcnt (lfT t st).1+kcnts (lfTs r (lfT t st).2).1)≤_;omega
theorem lfT_ccnt (t:Tm): ∀st:LS,ccnt (lfT t st).2+kcnt (lfT t st).1≤ccnt st+2*kcnt t:=by
 refine Tm.indA (P:=fun t=>∀st:LS,ccnt (lfT t st).2+kcnt (lfT t st).1≤ccnt st+2*kcnt t) (fun op g ls nm s ks ih st=>?_) t;have h1:=lfTs_ccnt ks st ih;have h2:=lfAct_ccnt (t:=.mk op g ls nm s (lfTs ks st).1) (st:=(lfTs ks st).2);rw[lfT,kcnt];rw[kcnt] at h2;omega
theorem lfTs_len2:∀(ks:List Tm) (st:LS),(∀(k:Nat) (t:Tm),ks[k]?=some t→∀st:LS,(lfT t st).2.cons.length≤st.cons.length+kcnt t)→(lfTs ks st).2.cons.length≤st.cons.length+kcnts ks
 | [],st,_=>by rw[lfTs];exact Nat.le_add_right _ _
 | t::r,st,ih=>by
  have h1:=ih 0 t rfl st;have h2:=lfTs_len2 r (lfT t st).2 (fun k u hu=>ih (k+1) u (by simpa using hu));rw[lfTs,kcnts];show (lfTs r (lfT t st).2).2.cons.length≤_;omega
theorem lfT_len (t:Tm): ∀st:LS,(lfT t st).2.cons.length≤st.cons.length+kcnt t:=by
 refine Tm.indA (P:=fun t=>∀st:LS,(lfT t st).2.cons.length≤st.cons.length+kcnt t) (fun op g ls nm s ks ih st=>?_) t;have h1:=lfTs_len2 ks st ih;rw[lfT,kcnt];have h2:(lfAct (.mk op g ls nm s (lfTs ks st).1) (lfTs ks st).2).2.cons.length≤(lfTs ks st).2.cons.length+1:=by
  unfold lfAct
  split
  ·exact Nat.le_of_eq sizeL_len.2.2
  ·split
   ·exact Nat.le_of_eq chosenL_len.2.2
   ·exact Nat.le_succ _
 omega
def ConsOk (st:LS): Prop:=∀c∈st.cons,kfew c.2=true∧c.1.length≤30
theorem frName_len {n:Int}(hn:n≤9000000000000000000): (frName n).length≤30:=(kfew_parts (frT_few (n:=n) (s:=2) (by omega))).1
theorem lfNew_ok {t:Tm}{st:LS}(h:ConsOk st)(ht:kfew t=true)(hn:st.next≤9000000000000000000): ConsOk (lfNew t st):=by
 intro c hc;rcases List.mem_append.1 hc with hc|hc
 ·exact h c hc
 ·rw[List.mem_singleton] at hc;subst hc;exact⟨ht,frName_len hn⟩
theorem lfAct_ok {t:Tm}{st:LS}(h:ConsOk st)(ht:kfew t=true)(hn:st.next≤9000000000000000000): ConsOk (lfAct t st).2:=by
 unfold lfAct
 split
 ·exact lfNew_ok h ht hn
 ·split
  ·exact lfNew_ok h ht hn
  ·exact h
theorem lfTs_ok:∀(ks:List Tm) (st:LS) (m:Nat),(∀(k:Nat) (t:Tm),ks[k]?=some t→∀(st:LS) (m:Nat),Room (kcnt t+m) st→kfew t=true→ConsOk st→ConsOk (lfT t st).2)→Room (kcnts ks+m) st→kfews ks=true→ConsOk st→ConsOk (lfTs ks st).2
 | [],st,m,_,h,_,ho=>by rw[lfTs];exact ho
 | t::r,st,m,ih,h,hf,ho=>by
  rw[lfTs];rw[kcnts] at h;rw[kfews,Bool.and_eq_true] at hf;exact lfTs_ok r _ m (fun k u hu=>ih (k+1) u (by simpa using hu)) (lfT_room t st _ (h.less (by omega))) hf.2 (ih 0 t rfl st _ (show Room (kcnt t+(kcnts r+m)) st from h.less (by omega)) hf.1 ho)
theorem lfT_ok (t:Tm): ∀(st:LS) (m:Nat),Room (kcnt t+m) st→kfew t=true→ConsOk st→ConsOk (lfT t st).2:=by
 refine Tm.indA (P:=fun t=>∀(st:LS) (m:Nat),Room (kcnt t+m) st→kfew t=true→ConsOk st→ConsOk (lfT t st).2) (fun op g ls nm s ks ih st m h hf ho=>?_) t;rw[lfT];rw[kcnt] at h;have hr:Room 0 (lfTs ks st).2:=lfTs_rooms (h.less (by omega));have h2:kfews (lfTs ks st).1=true:=lfTs_fews (m:=1+m) (h.less (by omega)) (kfew_parts hf).2.2;exact lfAct_ok (lfTs_ok ks st (1+m) ih (h.less (by omega)) (kfew_parts hf).2.2 ho) (kfew_mk hf h2) (by have:=hr.1.2;omega)
theorem lifted_ok {t:Tm}{next:Int}(hr:Room (kcnt t) (ls0 next))(hf:kfew t=true): ConsOk (lifted t next).2∧ccnt (lifted t next).2≤2*kcnt t∧(lifted t next).2.cons.length≤kcnt t:=by
 have h0:ConsOk (ls0 next):=fun c hc=>by cases hc
 unfold lifted
 split
 ·refine⟨lfT_ok t _ 0 hr hf h0,?_,?_⟩
  ·have h1:=lfT_ccnt t (ls0 next);have h2:ccnt (ls0 next)=0:=by unfold ccnt ls0;show kcnts []=0;rw[kcnts]
   omega
  ·have h1:=lfT_len t (ls0 next);have h2:(ls0 next).cons.length=0:=rfl;omega
 ·exact⟨h0,by show ccnt (ls0 next)≤_;unfold ccnt ls0;show kcnts []≤_;rw[kcnts];omega,Nat.zero_le _⟩
end M
set_option linter.unusedSimpArgs false
set_option linter.unusedVariables false
open Go.RowKit
namespace M
theorem kat_few {l:List Tm}(h:kfews l=true)(k:Nat): kfew (kat l k)=true:=by
 unfold kat;rw[List.getD_eq_getElem?_getD];rcases hq:l[k]? with _|t
 ·decide
 ·exact kfews_at h hq
theorem few_two {a b:Tm}(ha:kfew a=true)(hb:kfew b=true): kfews [a,b]=true:=by
 rw[kfews,kfews,kfews,ha,hb];rfl
theorem few_one {a:Tm}(ha:kfew a=true): kfews [a]=true:=by
 rw[kfews,kfews,ha];rfl
theorem kfews_snoc (a:List Tm)(x:Tm): kfews (a++[x])=(kfews a&&kfew x):=by
 induction a with
 | nil=>rw[List.nil_append,kfews,kfews,kfews];simp
 | cons y r ih=>rw[List.cons_append,kfews,kfews,ih,Bool.and_assoc]
theorem num0_few:kfew (knumT 0)=true:=by kernel_rfl
theorem hold_few {l:List Tm}{st:LS}(h:kfews st.held=true)(hl:kfews l=true): kfews (lfHold l st).held=true:=by
 show kfews (st.held++[(ofT 7 l st.ref).1])=true;rw[kfews_snoc,h,ofT_few hl];rfl
theorem szA_few {v n:Tm}{st:LS}(h:kfews st.held=true)(hv:kfew v=true)(hn:kfew n=true): kfews (szA v n st).held=true:=
 hold_few (st:=lfOf 10 [v,n] (lfOf 20 [n,knumT 0] st)) h (few_two (ofT_few (few_two hn num0_few)) (ofT_few (few_two hv hn)))
theorem szB_few {v n:Tm}{st:LS}(h:kfews st.held=true)(hv:kfew v=true)(hn:kfew n=true): kfews (szB v n st).held=true:=
 hold_few (st:=lfOf 10 [v,(ofT 14 [n] (lfOf 21 [n,knumT 0] st).ref).1] (lfOf 14 [n] (lfOf 21 [n,knumT 0] st))) h (few_two (ofT_few (few_two hn num0_few)) (ofT_few (few_two hv (ofT_few (few_one hn)))))
theorem chA_few {v c a:Tm}{st:LS}(h:kfews st.held=true)(hv:kfew v=true)(hc:kfew c=true)(ha:kfew a=true): kfews (chA v c a st).held=true:=
 hold_few (st:=lfOf 10 [v,a] (lfOf 5 [c] st)) h (few_two (ofT_few (few_one hc)) (ofT_few (few_two hv ha)))
theorem chB_few {v c b:Tm}{st:LS}(h:kfews st.held=true)(hv:kfew v=true)(hc:kfew c=true)(hb:kfew b=true): kfews (chB v c b st).held=true:=
 hold_few (st:=lfOf 10 [v,b] st) h (few_two hc (ofT_few (few_two hv hb)))
theorem lfAct_held {t:Tm}{st:LS}(h:kfews st.held=true)(ht:kfew t=true)(hn:st.next≤9000000000000000000): kfews (lfAct t st).2.held=true:=by
 have hk:=(kfew_parts ht).2.2;have hv:kfew (frT st.next 2)=true:=frT_few (by omega);unfold lfAct
 split
 ·exact szB_few (szA_few (st:=lfNew t st) h hv (kat_few hk 0)) hv (kat_few hk 0)
 ·split
  ·exact chB_few (chA_few (st:=lfNew t st) h hv (kat_few hk 0) (kat_few hk 1)) hv (kat_few hk 0) (kat_few hk 2)
  ·exact h
theorem lfTs_held:∀(ks:List Tm) (st:LS) (m:Nat),(∀(k:Nat) (t:Tm),ks[k]?=some t→∀(st:LS) (m:Nat),Room (kcnt t+m) st→kfew t=true→kfews st.held=true→kfews (lfT t st).2.held=true)→Room (kcnts ks+m) st→kfews ks=true→kfews st.held=true→kfews (lfTs ks st).2.held=true
 | [],st,m,_,h,_,ho=>by rw[lfTs];exact ho
 | t::r,st,m,ih,h,hf,ho=>by
  rw[lfTs];rw[kcnts] at h;rw[kfews,Bool.and_eq_true] at hf;exact lfTs_held r _ m (fun k u hu=>ih (k+1) u (by simpa using hu)) (lfT_room t st _ (h.less (by omega))) hf.2 (ih 0 t rfl st _ (show Room (kcnt t+(kcnts r+m)) st from h.less (by omega)) hf.1 ho)
theorem lfT_held (t:Tm): ∀(st:LS) (m:Nat),Room (kcnt t+m) st→kfew t=true→kfews st.held=true→kfews (lfT t st).2.held=true:=by
 refine Tm.indA (P:=fun t=>∀(st:LS) (m:Nat),Room (kcnt t+m) st→kfew t=true→kfews st.held=true→kfews (lfT t st).2.held=true) (fun op g ls nm s ks ih st m h hf ho=>?_) t;rw[lfT];rw[kcnt] at h;have hr:Room 0 (lfTs ks st).2:=lfTs_rooms (h.less (by omega));have h2:kfews (lfTs ks st).1=true:=lfTs_fews (m:=1+m) (h.less (by omega)) (kfew_parts hf).2.2;exact lfAct_held (lfTs_held ks st (1+m) ih (h.less (by omega)) (kfew_parts hf).2.2 ho) (kfew_mk hf h2) (by have:=hr.1.2;omega)
theorem lifted_held {t:Tm}{next:Int}(hr:Room (kcnt t) (ls0 next))(hf:kfew t=true): kfews (lifted t next).2.held=true:=by
 unfold lifted
 split
 ·exact lfT_held t _ 0 hr hf (by show kfews []=true;rw[kfews])
 ·show kfews []=true;rw[kfews]
end M
set_option linter.unusedSimpArgs false
set_option linter.unusedVariables false
open Go.RowKit
namespace M
def xP:Tm:=.mk 4 false [] [120] 2 []
def aP:Tm:=.mk 18 false [] [] 2 [xP]
def mP:List Fn:=mPut (mRead []) (constF [120] (vz 2 (-3)))
theorem lifted_P:(lifted aP 4).1=frT 4 2:=by kernel_rfl
theorem held_P:(lifted aP 4).2.held.length=2:=by kernel_rfl
theorem next_P:(lifted aP 4).2.next=5:=by kernel_rfl
theorem has_P:has1 (frT 4 2)=false:=by kernel_rfl
theorem has_A:has1 aP=true:=by kernel_rfl
theorem few_A:kfew aP=true:=by kernel_rfl
theorem cnt_A:kcnt aP=2:=by kernel_rfl
theorem over_len:(overM (mRead mP) (lifted aP 4).2.cons).length=2:=by kernel_rfl
theorem over_els:((overM (mRead mP) (lifted aP 4).2.cons)[0]?).map (·.els)=some (vz 2 3):=by kernel_rfl
end M
set_option linter.unusedSimpArgs false
set_option linter.unusedVariables false
open Go.RowKit
namespace M
def tow:Nat→Tm
 | 0=>.mk 4 false [] [120] 2 []
 | k+1=>.mk 18 false [] [] 2 [tow k]
def opA1 (op:Int): Bool:=decide (op=4)||decide (op=18)
def opA2 (op:Int)(n:Nat): Bool:=decide (op=1)||(decide (op=4)||(decide (op=7)||(decide (op=10)||(decide (op=14)&&decide (n=1)||(decide (op=20)||decide (op=21))))))
mutual
def all1:Tm→Bool
 | .mk op _ _ _ _ ks=>opA1 op&&all1s ks
def all1s:List Tm→Bool
 | []=>true
 | t::r=>all1 t&&all1s r
end
mutual
def all2:Tm→Bool
 | .mk op _ _ _ _ ks=>opA2 op ks.length&&all2s ks
def all2s:List Tm→Bool
 | []=>true
 | t::r=>all2 t&&all2s r
end
def namesFrom:Int→List (List UInt8×Tm)→Bool
 | _,[]=>true
 | j,c::r=>decide (c.1=frName j)&&(ksig ⟨frName j,[],2⟩&&(kIs c.2&&(decide (c.2.sort=2)&&namesFrom (j+1) r)))
def towB (k:Nat): Bool:=
 kIs (tow k)&&(kfew (tow k)&&(decide (kcnt (tow k)≤9)&&(decide ((lifted (tow k) 3).2.next=3+k)&&(decide ((lifted (tow k) 3).2.held.length=2*k)&&(decide ((lifted (tow k) 3).1.name=frName (2+k))
  && (decide ((lifted (tow k) 3).2.cons.length=k)&&(namesFrom 3 (lifted (tow k) 3).2.cons&&((lifted (tow k) 3).2.cons.all (fun c=>all1 c.2)&&(all2s (lifted (tow k) 3).2.held&&all2 (lifted (tow k) 3).1)))))))))
theorem tow_all:((List.range 8).all fun k=>towB (k+1))=true:=by kernel_rfl
structure TowOk (k:Nat): Prop where
 is:kIs (tow k)=true
 few:kfew (tow k)=true
 cnt:kcnt (tow k)≤9
 next:(lifted (tow k) 3).2.next=3+k
 held:(lifted (tow k) 3).2.held.length=2*k
 name:(lifted (tow k) 3).1.name=frName (2+k)
 cons:(lifted (tow k) 3).2.cons.length=k
 names:namesFrom 3 (lifted (tow k) 3).2.cons=true
 one:(lifted (tow k) 3).2.cons.all (fun c=>all1 c.2)=true
 two:all2s (lifted (tow k) 3).2.held=true
 twoU:all2 (lifted (tow k) 3).1=true
theorem tow_ok {k:Nat}(h1:1≤k)(h2:k≤8): TowOk k:=by
 have h:=List.all_eq_true.1 tow_all (k-1) (List.mem_range.2 (by omega));rw[show k-1+1=k by omega] at h;unfold towB at h;simp only[Bool.and_eq_true,decide_eq_true_iff] at h;obtain⟨a1,a2,a3,a4,a5,a6,a7,a8,a9,a10,a11⟩:=h;exact⟨a1,a2,a3,a4,a5,a6,a7,a8,a9,a10,a11⟩
theorem tow_has {nm:List UInt8}: ∀k:Nat,kHas nm (tow k)=true→nm=[120]
 | 0,h=>by
  rw[tow,kHas,kHass,Bool.or_false,Bool.and_eq_true] at h;exact(of_decide_eq_true h.2).symm
 | k+1,h=>by
  rw[tow,kHas,kHass,kHass,Bool.or_false,Bool.or_eq_true,Bool.and_eq_true] at h;rcases h with h|h
  ·exact absurd (of_decide_eq_true h.1) (by decide)
  ·exact tow_has k h
theorem tow_noBang (k:Nat): noBang (tow k):=fun nm h=>by
 rw[tow_has k h];decide
def mX (v:Int): List Fn:=mPut (mRead []) (constF [120] (vz 2 v))
theorem mX_is (v:Int): mIs (mX v)=true:=by
 have h:mRead ([]:List Fn)=[]:=rfl;unfold mX;rw[h];exact put_is (m:=[]) (nm:=[120]) (v:=vz 2 v) rfl (by kernel_rfl) (vIs_vz v)
theorem mX_list (v:Int): mX v=[constF [120] (vz 2 v)]:=rfl
theorem tow_ev (v:Int): ∀k:Nat,ev (mX v) (tow (k+1))=vz 2 (v.natAbs:Int)∧ev (mX v) (tow 0)=vz 2 v
 | 0=>by
  have h0:ev (mX v) (tow 0)=vz 2 v:=put_get (m:=[]) (nm:=[120]) (v:=vz 2 v) rfl;refine⟨?_,h0⟩;have e:ev (mX v) (tow 1)=vz 2 ((cz (ev (mX v) (tow 0))).natAbs:Int):=by
   show ev (mX v) (.mk 18 false [] [] 2 [tow 0])=_;generalize tow 0=t0;rw[ev,evs,evs,if_neg (by decide),if_neg (by decide),if_neg (by decide),if_neg (by decide),if_neg (by decide),if_pos rfl];rfl
  rw[e,h0,cz_vz]
 | k+1=>by
  obtain⟨h1,h0⟩:=tow_ev v k;refine⟨?_,h0⟩;have e:ev (mX v) (tow (k+1+1))=vz 2 ((cz (ev (mX v) (tow (k+1)))).natAbs:Int):=by
   rw[tow,ev,evs,evs,if_neg (by decide),if_neg (by decide),if_neg (by decide),if_neg (by decide),if_neg (by decide),if_pos rfl];rfl
  rw[e,h1,cz_vz];rfl
theorem mPut_new1 {l:List Fn}{f:Fn}(h:∀g∈l,g.sg.name≠f.sg.name): (mPut l f).length=l.length+1:=by
 unfold mPut;have h1:=congrArg List.length (List.takeWhile_append_dropWhile (p:=fun x:Fn=>Go.Op.bytesLess x.sg.name f.sg.name) (l:=l));have h2:((l.dropWhile fun x:Fn=>Go.Op.bytesLess x.sg.name f.sg.name).dropWhile fun x:Fn=>decide (x.sg.name=f.sg.name))=l.dropWhile fun x:Fn=>Go.Op.bytesLess x.sg.name f.sg.name:=by
  rcases hq:(l.dropWhile fun x:Fn=>Go.Op.bytesLess x.sg.name f.sg.name) with _|⟨x,r⟩
  ·rfl
  ·have hx:x∈l:=(List.dropWhile_sublist _).mem (by rw[hq];exact List.mem_cons_self ..);rw[List.dropWhile_cons,if_neg (by rw[decide_eq_false (h x hx)];decide)]
 rw[h2];rw[List.length_append] at h1;rw[List.length_append,List.length_cons];omega
theorem mPut_name {f g:Fn}{l:List Fn}(h:f∈mPut l g): f=g∨f∈l:=by
 unfold mPut at h;rcases List.mem_append.1 h with h|h
 ·exact .inr ((List.takeWhile_sublist _).mem h)
 ·rcases List.mem_cons.1 h with h|h
  ·exact .inl h
  ·exact .inr ((List.dropWhile_sublist _).mem ((List.dropWhile_sublist _).mem h))
theorem over_len1:∀(cs:List (List UInt8×Tm)) (j:Int) (L:List Fn),0≤j→mIs L=true→(∀f∈L,∀i,j≤i→f.sg.name≠frName i)→namesFrom j cs=true→(overM L cs).length=L.length+cs.length
 | [],_,_,_,_,_,_=>rfl
 | c::r,j,L,hj,hm,hn,hc=>by
  rw[namesFrom] at hc;simp only[Bool.and_eq_true,decide_eq_true_iff] at hc;obtain⟨h1,h2,h3,h4,h5⟩:=hc;have hv:vIs (mEval L c.2) 2=true:=h4▸eval_is h3;have hs:(mEval L c.2).1=2:=by
   unfold vIs at hv;rw[Bool.and_eq_true] at hv;exact of_decide_eq_true hv.1
  have e:overM L (c::r)=overM (mPut L ⟨⟨frName j,[],(mEval L c.2).1⟩,[],mEval L c.2⟩) r:=by
   unfold overM;rw[List.foldl_cons,mRead_is hm,h1]
  rw[e,over_len1 r (j+1) _ (by omega) (put_is hm (by rw[hs];exact h2) (by rw[hs];exact hv)) (fun f hf i hi=>?_) h5,mPut_new1 (fun g hg=>hn g hg j (Int.le_refl _)),List.length_cons]
  ·omega
  ·rcases mPut_name hf with rfl|hf
   ·intro e2;have:=frName_inj hj (by omega) e2;omega
   ·exact hn f hf i (by omega)
theorem do_from {t:Tm}{next:Int}{m:List Fn}(h0:0≤next)(hm:mIs m=true)(hk:kIs t=true)(hn:noBang t):
 mIs (doK act1 t next m).2.2.2=true∧mEval (doK act1 t next m).2.2.2 (doK act1 t next m).1=mEval m t∧∀d∈(doK act1 t next m).2.1,isTrue (doK act1 t next m).2.2.2 d:=by
 obtain⟨hc,hks⟩:=kIs_parts hk;rcases do_ways hk next m with⟨-,e⟩|⟨hb,e⟩
 ·rw[e];exact⟨hm,rfl,fun d hd=>(by cases hd)⟩
 ·rw[e];obtain⟨a1,a2,a3,a4,a5,D,a6,a7⟩:=pure_grow t (ps0 next m) hm h0 rfl hks hc hn hb;obtain⟨b1,b2,-,-⟩:=pure_ok (act1_ok m) t (ps0 next m) rfl hks hc hb;have hu:kIs (pureT act1 t (ps0 next m)).1=true:=by unfold kIs;rw[b1,decide_eq_true (pure_cnt rfl hks hc hb)];rfl
  have hd:(pureT act1 t (ps0 next m)).2.defs=D:=a6;refine⟨a2,?_,fun d hd'=>(a7 d (hd▸hd')).2⟩;show mEval _ (pureT act1 t (ps0 next m)).1=mEval m t;rw[mEval_is' a2 hu,mEval_is' hm hk,a5];rfl
theorem abs_ok {k:Nat}{v:Int}(h1:1≤k)(h2:k≤8): (∀d∈(lifted (tow k) 3).2.held,isTrue (overM (mRead (mX v)) (lifted (tow k) 3).2.cons) d)∧mEval (overM (mRead (mX v)) (lifted (tow k) 3).2.cons) (lifted (tow k) 3).1=vz 2 (v.natAbs:Int) ∧
 (overM (mRead (mX v)) (lifted (tow k) 3).2.cons).length=k+1:=by
 have T:=tow_ok h1 h2;have hd:=do_from (next:=3) (m:=mX v) (by decide) (mX_is v) T.is (tow_noBang k);rw[lifted_do] at hd;obtain⟨-,d2,d3⟩:=hd;rw[mRead_is (mX_is v)];refine⟨d3,?_,?_⟩
 ·rw[d2,mEval_is' (mX_is v) T.is];obtain⟨j,rfl⟩:∃j,k=j+1:=⟨k-1,by omega⟩;exact(tow_ev v j).1
 ·rw[over_len1 _ 3 (mX v) (by decide) (mX_is v) (fun f hf i hi=>?_) T.names,T.cons,mX_list]
  ·rw[List.length_singleton];omega
  ·rw[mX_list,List.mem_singleton] at hf;subst hf;show ([120]:List UInt8)≠frName i;unfold frName;intro e;exact absurd (List.cons.inj e).1 (by decide)
end M
set_option linter.unusedSimpArgs false
set_option linter.unusedVariables false
open Go.RowKit
namespace M
theorem lifted_few {t:Tm}{next:Int}(h:Room (kcnt t) (ls0 next))(hf:kfew t=true): kfew (lifted t next).1=true:=by
 unfold lifted
 split
 ·exact lfT_few t _ 0 h hf
 ·exact hf
theorem room0 {n:Nat}{next:Int}(h1:-9000000000000000000≤next)(h2:next+n≤9000000000000000000)(hn:n≤400000): Room n (ls0 next):=⟨⟨h1,h2⟩,by show 0+_≤_;omega,by show 0+_≤_;omega⟩
end M
end Go.Proofs.YtoenjbkmiphhoaaGreatDoor.Q
