/-
  Layer 12: contracts of package value: terms, term.
-/
import Derived.Test.YtoenjbkmiphhoaaGreatDoorA28
import Derived.Test.YtoenjbkmiphhoaaGreatDoorA29
namespace Go.Proofs.YtoenjbkmiphhoaaGreatDoor.Q
set_option linter.unusedSimpArgs false
set_option linter.unusedVariables false
open Go.RowKit
namespace M
theorem kis_mk (op:Int)(g:Bool)(ls:List Nat)(nm:List UInt8)(s:Int)(ks:List Tm): kis (.mk op g ls nm s ks)=(kiss ks&&khead op g ls nm s ks):=by rw[kis]
theorem khead_op {op:Int}{g:Bool}{ls:List Nat}{nm:List UInt8}{s:Int}{ks:List Tm}(h:khead op g ls nm s ks=true)(h1:op≠1)(h2:op≠2)(h3:op≠3)(h4:op≠4): 5≤op∧op≤22∧kargs op ks.length=true∧kcheck op ks=0∧s=kres op ks:=by
 unfold khead at h;rw[if_neg h1,if_neg (by omega),if_neg h4] at h;simp only[Bool.and_eq_true,decide_eq_true_iff] at h;exact⟨h.2.2.1.1,h.2.2.1.2,h.2.2.2.1,h.2.2.2.2.1,h.2.2.2.2.2⟩
theorem kcheck_lin {op:Int}{ks:List Tm}(h:kcheck op ks=0): klin op ks=0:=by
 unfold kcheck at h
 split at h
 ·omega
 split at h
 ·assumption
 ·rename_i h2;omega
theorem kargs_two {op:Int}{n:Nat}(h:kargs op n=true)(ho:op=15∨op=16∨op=17∨op=19∨op=20∨op=21∨op=22∨op=9∨op=10∨op=8): n=2:=by
 unfold kargs at h;rw[if_neg (by omega),if_pos ho] at h;simpa using h
theorem kargs_one {op:Int}{n:Nat}(h:kargs op n=true)(ho:op=5∨op=18): n=1:=by
 unfold kargs at h;rw[if_pos ho] at h;simpa using h
theorem kargs_pos {op:Int}{n:Nat}(h:kargs op n=true): 1≤n:=by
 unfold kargs at h
 split at h
 ·simp at h;omega
 split at h
 ·simp at h;omega
 split at h
 ·simp at h;omega
 ·simpa using h
theorem kargs_three {n:Nat}(h:kargs 12 n=true): n=3:=by
 unfold kargs at h;rw[if_neg (by omega),if_neg (by omega),if_pos rfl] at h;simpa using h
theorem two_of {α:Type}{l:List α}(h:l.length=2): ∃x y,l=[x,y]:=by
 match l,h with
 | [x,y],_=>exact⟨x,y,rfl⟩
theorem three_of {α:Type}{l:List α}(h:l.length=3): ∃x y z,l=[x,y,z]:=by
 match l,h with
 | [x,y,z],_=>exact⟨x,y,z,rfl⟩
theorem one_of {α:Type}{l:List α}(h:l.length=1): ∃x,l=[x]:=by
 match l,h with
 | [x],_=>exact⟨x,rfl⟩
theorem knum_short {m:List Fn}{t:Tm}(hk:kis t=true)(hf:kfew t=true)(hn:(knum t).isNone=false): (ev m t).2.2.length≤40:=by
 obtain⟨op,g,ls,nm,s,ks⟩:=t;have h1:=(kfew_parts hf).2.1;replace h1:ls.length≤40:=h1
 by_cases ho:op=1
 ·subst ho;rw[ev,if_pos rfl];exact h1
 by_cases ho2:op=14
 ·subst ho2;rw[kis_mk,Bool.and_eq_true] at hk
  match ks,hn with
  | [k],hn=>
   replace hn:(if k.op=1 then some (-k.zv) else none:Option Int).isNone=false:=hn
   by_cases hk1:k.op=1
   ·obtain⟨op',g',ls',nm',s',ks'⟩:=k;replace hk1:op'=1:=hk1;subst hk1;have hz:M.isZ g' ls'=true:=by
     have:=hk.1;rw[kiss,Bool.and_eq_true,kis_mk,Bool.and_eq_true] at this;have h2:=this.1.2;unfold khead at h2;rw[if_pos rfl,Bool.and_eq_true] at h2;exact h2.1
    have hl:ls'.length≤40:=by
     have:=(kfew_parts hf).2.2;replace this:kfews [Tm.mk 1 g' ls' nm' s' ks']=true:=this;rw[kfews,Bool.and_eq_true] at this;exact(kfew_parts this.1).2.1
    have hsg:=(khead_op hk.2 (by decide) (by decide) (by decide) (by decide)).2.2.2.2;replace hsg:s=2:=hsg;subst hsg;have e:ev m (.mk 14 g ls nm 2 [.mk 1 g' ls' nm' s' ks'])=vz 2 (-(M.zv g' ls')):=by
     rw[ev,if_neg (by decide),if_neg (by decide),if_neg (by decide),if_neg (by decide),if_neg (by decide),if_pos rfl,evs,evs,ev,if_pos rfl];rfl
    rw[e];show (M.limbs (-(M.zv g' ls')).natAbs).length≤40;rw[Int.natAbs_neg,M.limbs_zv hz];exact hl
   ·rw[if_neg hk1] at hn;cases hn
  | [],hn=>
   have:(none:Option Int).isNone=false:=hn;cases this
  | _::_::_,hn=>
   have:(none:Option Int).isNone=false:=hn;cases this
 ·have e:knum (.mk op g ls nm s ks)=none:=by
   unfold knum;rw[if_neg (show ¬(Tm.mk op g ls nm s ks).op=1 from ho),if_neg (show ¬(Tm.mk op g ls nm s ks).op=14 from ho2)]
  rw[e] at hn;cases hn
end M
mutual
def M.kHas (nm:List UInt8): M.Tm→Bool
 | .mk op _ _ n _ ks=>(decide (op=4)&&decide (n=nm))||M.kHass nm ks
def M.kHass (nm:List UInt8): List M.Tm→Bool
 | []=>false
 | t::r=>M.kHas nm t||M.kHass nm r
end
theorem M.kHass_at {nm:List UInt8}: ∀{ks:List M.Tm} {k:Nat} {u:M.Tm},M.kHass nm ks=false→ks[k]?=some u→M.kHas nm u=false
 | [],_,_,_,h=>by simp at h
 | x::r,0,u,h,e=>by simp at e;subst e;rw[M.kHass,Bool.or_eq_false_iff] at h;exact h.1
 | x::r,k+1,u,h,e=>by rw[M.kHass,Bool.or_eq_false_iff] at h;exact M.kHass_at h.2 (k:=k) (by simpa using e)
theorem M.kHas_kid {nm n:List UInt8}{op s:Int}{g:Bool}{ls:List Nat}{ks:List M.Tm}{k:Nat}{u:M.Tm}(h:M.kHas nm (.mk op g ls n s ks)=false)(e:ks[k]?=some u): M.kHas nm u=false:=by
 rw[M.kHas,Bool.or_eq_false_iff] at h;exact M.kHass_at h.2 e
theorem M.kHas_name {nm n:List UInt8}{s:Int}{g:Bool}{ls:List Nat}{ks:List M.Tm}(h:M.kHas nm (.mk 4 g ls n s ks)=false): nm≠n:=by
 rw[M.kHas,Bool.or_eq_false_iff,decide_eq_true rfl,Bool.true_and] at h;exact fun e=>of_decide_eq_false h.1 e.symm
structure StrOk (w:World)(m:List M.Fn)(v:Value): Prop where
 list:FnList w m v
 asc:M.kAsc (m.map M.Fn.sg)
 len:m.length≤1000000
 wd:∀f∈m,M.fnWd 2000000 f
theorem StrOk.up {w w':World}{m:List M.Fn}{v:Value}(h:StrOk w m v)(e:Ext w w'): StrOk w' m v:=⟨h.list.up e,h.asc,h.len,h.wd⟩
def GivesVW (w:World)(x:M.Vl)(W:Nat)(e:Ending)(w':World): Prop:=∃v,e=.returned v∧IsVl w' x v∧Ext w w'∧x.2.2.length≤W
theorem wpList_appV {base:Nat}{w:World}{ops:Array Oper}{rest:List Oper}{o:Oper}{a:Act}{Q:Exit→Act→World→Prop}(hgd:o.guard=none)(s x:Operand)
 (ho:o.op=.call { callee:=.builtin .append,args:=#[s,x],argTypes:=#[67,67] }) {v:Value} {ls:List M.Vl} {V:Int} {b:Bool} {A:Option Addr} {n c:Nat} {l:List Nat} {gL:Nat} {tL:TypeId}
 (hs:a.eval s=v) (hx:a.eval x=.slice (some ⟨gL,0,none⟩) 1 1) (h:VOwn base w v ls) (hL:Box w gL #[.int .i64 V,.bool b,.slice A n c] tL) (hm:Num w w.heap.size (.slice A n c) l) (hlen:ls.length+1≤1000000) (hbase:base≤w.heap.size)
 (hq:∀v' w',VOwn base w' v' (ls++[(V,b,l)])→Kept [ownBlk base v] w w'→Keeps w w'→wpList Tryz.prog ops Q rest (a.put o.dst v') w'):wpList Tryz.prog ops Q (o::rest) a w:=by
 obtain⟨v',w',hr,h2,h3,h4⟩:=appV_run h hL hm hlen hbase o.type;refine wpList_plain hgd fun K hK=>?_;unfold Oper.wp execOp;simp only[ho,resolve,invoke,builtin,Sem.run_bind,Sem.run_pure,Result.andThen_ok,List.map_toArray,List.map_cons,List.map_nil,hs,hx,hr];exact hK _ _ (hq v' w' h2 h3 h4)
theorem VOwn.shape {base:Nat}{w:World}{v:Value}{ls:List M.Vl}(h:VOwn base w v ls): ∃A n c,v=.slice A n c:=h.list.shape
def GivesVs (w:World)(m:List M.Fn)(ks:List M.Tm)(U:Nat)(e:Ending)(w':World): Prop:=∃v,e=.returned v∧VOwn w.heap.size w' v (M.evs m ks)∧Ext w w'∧∀t∈ks,(M.ev m t).2.2.length≤U+50*M.kcnt t
set_option maxHeartbeats 8000000 in
theorem terms_v {U:Nat}{m:List M.Fn}{ks:List M.Tm}{mv v:Value}{w:World}(hm:StrOk w m mv)(h:Tms w ks v)(hlen:ks.length≤100000)
 (ih:∀(k:Nat) (t:M.Tm),ks[k]?=some t→∀u w',Ext w w'→IsTm w' t u→Calls Tryz.prog 125 #[mv,u] w' (GivesVW w' (M.ev m t) (U+50*M.kcnt t))) :
 Calls Tryz.prog 157 #[mv,v] w (GivesVs w m ks U):=by
 obtain⟨A,c,rfl⟩:=h.shape;obtain⟨h1,h2,h3⟩:=h.le;obtain⟨n,hn⟩:∃n,ks.length=n:=⟨_,rfl⟩;rw[hn] at h h2 hlen ⊢;obtain⟨MA,mc,rfl⟩:=hm.list.shape;obtain⟨mn,hmn⟩:∃n,m.length=n:=⟨_,rfl⟩;rw[hmn] at ih ⊢;have HK:=hid h;have HN:=hid hn;have HI:=hid ih;clear h hn ih hm hmn h1;go_enter Tryz.func157,Tryz.ntmps157
 go_wp2_with fail
 go_loopw[5,10] (fun x i wr=>∃k:Nat,k≤n∧i=.int .i64 k∧Hid (VOwn w.heap.size wr x ((ks.take k).map (M.ev m))∧Ext w wr∧∀t∈ks.take k,(M.ev m t).2.2.length≤U+50*M.kcnt t)) (fun _ i _=>n-(intOf i).toNat)
 case atStart=>exact⟨0,Nat.zero_le _,rfl,VOwn.nil _ _,Ext.refl _,fun t ht=>by simp at ht⟩
 case round=>
  obtain⟨k,hk,rfl,hR⟩:=hrel;have E:=hid hR.out.2.1;have HWD:=hid hR.out.2.2;obtain⟨L,hL⟩:∃L,(ks.take k).map (M.ev m)=L:=⟨_,rfl⟩;have hO:=hR.out.1;rw[hL] at hO;have HL:=hid hL;have HLK:=hid (show L.length=k by rw[←HL.out,List.length_map,List.length_take,HN.out];omega);obtain⟨IA,im,ic,rfl⟩:=hO.shape;have HO:=hid hO;clear hR hL hO;rcases Nat.lt_or_ge k n with hlt|hge
  ·have hlt':(k:Int)<(n:Int):=by omega
   obtain⟨ad,t,N,nn,nc,B,d,rfl,ht,⟨c0,c1,c2,c3,c4,c5⟩,hit⟩:=(HK.out.up E.out).get hlt;have HT:=hid ht;obtain⟨o1,ho1⟩:∃o,t.op=o:=⟨_,rfl⟩;obtain⟨o2,ho2⟩:∃o,t.g=o:=⟨_,rfl⟩;obtain⟨o3,ho3⟩:∃o,t.name=o:=⟨_,rfl⟩;obtain⟨o4,ho4⟩:∃o,t.sort=o:=⟨_,rfl⟩;obtain⟨o5,ho5⟩:∃o,t.kids.length=o:=⟨_,rfl⟩;rw[ho1] at c0 hit;rw[ho2] at c1 hit;rw[ho3] at c3 hit;rw[ho4] at c4 hit;rw[ho5] at c5 hit;obtain⟨X,hX⟩:∃X,M.ev m t=X:=⟨_,rfl⟩;have HX:=hid hX;have HC:=hid (show ∀w',Ext wr w'→Calls Tryz.prog 125 #[.slice MA mn mc,kv o1 o2 N nn nc o3 o4 B o5 d] w' (GivesVW w' X (U+50*M.kcnt t)) from fun w' e=>hX▸HI.out k t ht _ w' (E.out.trans e) (hit.up e));have HB:=hid (Box.new wr #[.int .i64 o1,.bool o2,.slice N nn nc,str o3,.int .i64 o4,.slice B o5 d] 27);have EB:=hid (Ext.alloc wr (.cells #[.int .i64 o1,.bool o2,.slice N nn nc,str o3,.int .i64 o4,.slice B o5 d] 27));have hlen9:=hid (show L.length+1≤1000000 by have:=HLK.out;omega);clear ht hit ho1 ho2 ho3 ho4 ho5 hX;obtain⟨⟨b0,b1,b2,b3,b4,b5⟩,-,-⟩:=boxF6 HB.out;go_wp2_with fail
   refine(HC.out _ EB.out).mono ?_;rintro e w3 ⟨v3,rfl,hv3,hx,hwd⟩;obtain⟨xs,xg,xl⟩:=X;obtain⟨N3,n3,c3',rfl,hn3⟩:=hv3;replace hn3:LNum w3 (.slice N3 n3 c3') xl:=hn3;have E3:=hid (EB.out.trans hx);have HN3:=hid hn3;have HW3:=hid hwd;clear hx hn3 hwd c0 c1 c2 c3 c4 c5 b0 b1 b2 b3 b4 b5 HC HB;go_wp2_with (at_builtin;refine wpList_appV rfl (.tmp 14) (.tmp 18) rfl (base:=w.heap.size) (ls:=L) (V:=xs) (b:=xg) (A:=N3) (n:=n3) (c:=c3') (l:=xl) (gL:=w3.heap.size) (tL:=45) rfl rfl ?own ?box ?num hlen9.out ?base ?_)
   case own=>exact(HO.out.up E3.out).up (Ext.alloc w3 _)
   case box=>exact Box.new w3 _ _
   case num=>exact LNum.up HN3.out (Ext.alloc w3 _)
   case base=>have:=E.out.size;have:=E3.out.size;simp;omega
   intro v' w5 hO5 hk5 hks;have HO5:=hid hO5;have E5:=hid (show Ext w w5 from((E.out.trans E3.out).trans (Ext.alloc w3 _)).keptG hk5 HO.out.blk);clear hO5 hk5 hks;go_wp2_with fail
   go_roundw
   case rel=>exact⟨k+1,by omega,by simp,by rw[List.take_add_one,HT.out,List.map_append,HL.out];simp only[Option.toList,List.map_cons,List.map_nil,HX.out];exact HO5.out,E5.out,fun u hu=>(by
    rw[List.take_add_one,HT.out,List.mem_append] at hu;rcases hu with hu|hu
    ·exact HWD.out u hu
    ·simp at hu;subst hu;rw[HX.out];exact HW3.out)⟩
   case measure=>simp[intOf];omega
  ·obtain rfl:k=n:=by omega
   go_wp2;go_ret;have h1:=HL.out;have h2:=HWD.out;rw[←HN.out,List.take_length] at h1 h2;refine⟨_,rfl,?_,E.out,h2⟩;rw[M.evs_map,h1];exact HO.out
theorem M.evs_len (m:List M.Fn)(ks:List M.Tm): (M.evs m ks).length=ks.length:=by rw[M.evs_map,List.length_map]
theorem M.evs_mem {m:List M.Fn}{ks:List M.Tm}{x:M.Vl}(h:x∈M.evs m ks): ∃(k:Nat) (t:M.Tm),ks[k]?=some t∧M.ev m t=x:=by
 rw[M.evs_map,List.mem_map] at h;obtain⟨t,ht,hx⟩:=h;obtain⟨k,hk⟩:=List.getElem?_of_mem ht;exact⟨k,t,hk,hx⟩
theorem v_stored {w0 w:World}{g W:Nat}{x:M.Vl}{v:Value}{x0 x1 x2:Value}(hb:Box w g zero3v 45)(hv:IsVl w x v)(hW:x.2.2.length≤W)(e:Ext w0 w)(hg:w0.heap.size≤g): GivesVW w0 x W (.returned v) (put3v w g x0 x1 x2):=
 ⟨_,rfl,hv.put3 hb,put3v_ext e hg,hW⟩
mutual
def M.allOp (P:Int→Bool): M.Tm→Bool
 | .mk op _ _ _ _ ks=>P op&&M.allOps P ks
def M.allOps (P:Int→Bool): List M.Tm→Bool
 | []=>true
 | t::r=>M.allOp P t&&M.allOps P r
end
theorem M.allOps_at {P:Int→Bool}: ∀{ks:List M.Tm} {k:Nat} {u:M.Tm},M.allOps P ks=true→ks[k]?=some u→M.allOp P u=true
 | [],_,_,_,h=>by simp at h
 | x::r,0,u,h,e=>by simp at e;subst e;rw[M.allOps,Bool.and_eq_true] at h;exact h.1
 | x::r,k+1,u,h,e=>by rw[M.allOps,Bool.and_eq_true] at h;exact M.allOps_at h.2 (k:=k) (by simpa using e)
structure TermC (P:Int→Bool): Prop where
 reck:∀{ls:List (Bool×List Nat)} {op:Int} {v:Value} {w:World} {W K:Nat},P op=true→ZList w v ls→ls.length≤100000→(∀x∈ls,x.2.length≤W)→W≤100000 →
  (op=13∨(op=14∧ls≠[])∨(op=15∧∃a b:Bool×List Nat,ls=[a,b]∧(a.2.length<64∨b.2.length<64))∨(op=18∧ls≠[])∨((op=16∨op=17)∧∃a b:Bool×List Nat,ls=[a,b])) →
  (op≠15→W+ls.length+4≤K)→(∀a b:Bool×List Nat,ls=[a,b]→op=15→a.2.length+b.2.length≤K) →
  Calls Tryz.prog 161 #[.int .i64 op,v] w (GivesZ w (M.mReck op (ls.map fun x=>M.zv x.1 x.2)) K)
 told:∀{l:List M.Vl} {op:Int} {v:Value} {w:World},P op=true→VList w v l →
  ((op=5∧∃x,l=[x])∨op=6∨op=7∨op=8∨op=11∨(op=9∧∃x y,l=[x,y])∨(op=10∧∃x y,l=[x,y])∨((op=19∨op=20∨op=21∨op=22)∧∃x y,l=[x,y])) →
  Calls Tryz.prog 163 #[.int .i64 op,v] w (GivesB w (M.mTold op l))
 chos:P 12=true→∀{x y z:M.Vl} {v:Value} {w:World},VList w v [x,y,z]→Calls Tryz.prog 160 #[v] w (GivesV w (if M.vHolds x=true then y else z))
set_option maxHeartbeats 16000000 in
set_option maxRecDepth 100000 in
theorem term_g {P:Int→Bool}(C:TermC P){U:Nat}(hU:40≤U)(hU2:U≤70000){m:List M.Fn}: ∀(F:Nat) {t:M.Tm} {mv v:Value} {w:World},M.kcnt t<F→M.allOp P t=true→M.kis t=true→M.kcnt t≤400→M.kfew t=true→StrOk w m mv→(∀f∈m,M.fnWd U f∨M.kHas f.sg.name t=false)→IsTm w t v→Calls Tryz.prog 125 #[mv,v] w (GivesVW w (M.ev m t) (U+50*M.kcnt t))
 | 0,_,_,_,_,hF,_,_,_,_,_,_,_=>absurd hF (Nat.not_lt_zero _)
 | F+1,t,mv,v,w,hF,hP,hk,h400,hf,hm,hno,ht=>by
  obtain⟨op,g,ls,nm,s,ks⟩:=t;obtain⟨N,nn,nc,A,c,rfl,hn,hks⟩:=ht;replace hn:LNum w (.slice N nn nc) ls:=hn;replace hks:Tms w ks (.slice A ks.length c):=hks;show Calls Tryz.prog 125 #[mv,kv op g N nn nc nm s A ks.length c] w _;rw[M.allOp,Bool.and_eq_true] at hP;rw[M.kis_mk,Bool.and_eq_true] at hk;have hcnt:M.kcnt (.mk op g ls nm s ks)=1+M.kcnts ks:=by rw[M.kcnt]
  rw[hcnt] at hF h400;have hkl:=M.kcnts_len ks;obtain⟨hf1,hf2,hf3⟩:=M.kfew_parts hf;replace hf1:nm.length≤30:=hf1;replace hf2:ls.length≤40:=hf2;replace hf3:M.kfews ks=true:=hf3;have HT:=hid (show ∀w',Ext w w'→Calls Tryz.prog 157 #[mv,.slice A ks.length c] w' (GivesVs w' m ks U) from fun w' e=>
   terms_v (hm.up e) (hks.up e) (by omega) fun k u hu uv w2 e2 hu2=>term_g C hU hU2 F (by have:=M.kcnts_at hu;omega) (M.allOps_at hP.2 hu) (M.kiss_at hk.1 hu) (by have:=M.kcnts_at hu;omega) (M.kfews_at hf3 hu) ((hm.up e).up e2) (fun f hf=>(hno f hf).imp id fun h=>M.kHas_kid h hu) hu2)
  have HNO:=hid hno;clear hno;have HM:=hid (fun w' (e:Ext w w')=>hm.up e);obtain⟨MA,mc,rfl⟩:=hm.list.shape;obtain⟨mn,hmn⟩:∃n,m.length=n:=⟨_,rfl⟩;obtain⟨kn,hkn⟩:∃n,ks.length=n:=⟨_,rfl⟩;rw[hmn] at HM;rw[hmn,hkn] at HT ⊢;obtain⟨X,hX⟩:∃X,M.ev m (.mk op g ls nm s ks)=X:=⟨_,rfl⟩;rw[hcnt,hX];have HX:=hid hX;have HH:=hid hk.2;have HPO:=hid hP.1;have HKI:=hid hk.1;have HKN:=hid hkn;have HF3:=hid hf3;have HKL:=hid hkl;have HN:=hid (fun w' (e:Ext w w')=>LNum.up hn e);have HL:=hid hf2;have HNM:=hid hf1;have H400:=hid h400;have HB0:=hid (show Box ((w.alloc (.cells #[.int .i64 op,.bool g,.slice N nn nc,str nm,.int .i64 s,.slice A kn c] 27)).alloc (.cells zero3v 45)) w.heap.size #[.int .i64 op,.bool g,.slice N nn nc,str nm,.int .i64 s,.slice A kn c] 27 from(Box.new w _ _).alloc _);have HB1:=hid (show Box ((w.alloc (.cells #[.int .i64 op,.bool g,.slice N nn nc,str nm,.int .i64 s,.slice A kn c] 27)).alloc (.cells zero3v 45)) (w.heap.size+1) zero3v 45 from Box.at_ (w:=w.alloc (.cells #[.int .i64 op,.bool g,.slice N nn nc,str nm,.int .i64 s,.slice A kn c] 27)) _ _ (by simp));have E0:=hid (alloc_two w (.cells #[.int .i64 op,.bool g,.slice N nn nc,str nm,.int .i64 s,.slice A kn c] 27) (.cells zero3v 45));clear hF hP hk h400 hf hm hn hks hcnt hkl hf1 hf2 hf3 hmn hkn hX;go_enter Tryz.func125,Tryz.ntmps125
  go_upto_region 1 with (fail)
  refine vwp_at (fun W=>Box W w.heap.size #[.int .i64 op,.bool g,.slice N nn nc,str nm,.int .i64 s,.slice A kn c] 27∧Box W (w.heap.size+1) zero3v 45∧Ext w W) ⟨HB0.out,HB1.out,E0.out⟩ ?_;clear HB0 HB1 E0;intro W ⟨hb0,hb1,he⟩;obtain⟨g0,hg0⟩:∃g,w.heap.size=g:=⟨_,rfl⟩;have HG:=hid (show w.heap.size≤g0+1 by omega);rw[hg0] at hb0 hb1 ⊢;have HB0:=hid hb0;have HB1:=hid hb1;have E:=hid he;clear hb0 hb1 he hg0;obtain⟨⟨b0,b1,b2,b3,b4,b5⟩,-,-⟩:=boxF6 HB0.out
  by_cases h1:op=1
  ·subst h1;have HE:=hid (show X=(2,g,ls) by rw[←HX.out,M.ev,if_pos rfl]);have HC:=hid (ownI_v (g:=g) (HN.out W E.out) (by have:=HL.out;omega));clear HX HT HM HH HKI;go_wp2_with fail
   refine HC.out.mono ?_;rintro e w1 ⟨N1,n1,c1,rfl,hv1,hx⟩;have HV:=hid (show IsVl w1 (2,g,ls) (vv 2 g N1 n1 c1) from⟨N1,n1,c1,rfl,hv1.sub (gp_sub _ _)⟩);have E1:=hid (E.out.trans hx);have HB:=hid (HB1.out.up hx);obtain⟨⟨r0,r1,r2⟩,⟨f0,f1,f2⟩,hz⟩:=box3v HB.out;clear hx b0 b1 b2 b3 b4 b5 HC;go_wp2_with fail
   refine bodyPost_ret (v:=vv 2 g N1 n1 c1) (by simp[results,Tryz.results125,go_sem,r0,r1,r2,hz]) rfl ?_;rw[HE.out];exact v_stored HB.out HV.out (by have:=HL.out;show ls.length≤_;omega) E1.out HG.out
  by_cases h2:op=2
  ·subst h2;have HE:=hid (show X=M.vTruth true by rw[←HX.out,M.ev,if_neg (by decide),if_pos rfl]);have HC:=hid (fun w'=>truth_v true w');clear HX HT HM HH HKI h1;go_wp2_with fail
   refine(HC.out _).mono ?_;rintro e w1 ⟨v1,rfl,hv1,hx⟩;have HV:=hid hv1;obtain⟨N1,n1,c1,rfl,-⟩:=hv1;have E1:=hid (E.out.trans hx);have HB:=hid (HB1.out.up hx);obtain⟨⟨r0,r1,r2⟩,⟨f0,f1,f2⟩,hz⟩:=box3v HB.out;clear hx b0 b1 b2 b3 b4 b5 HC;go_wp2_with fail
   refine bodyPost_ret (v:=vv (M.vTruth true).1 (M.vTruth true).2.1 N1 n1 c1) (by simp[results,Tryz.results125,go_sem,r0,r1,r2,hz]) rfl ?_;rw[HE.out]
   exact v_stored HB.out HV.out (by show (M.limbs 1).length ≤ _; have : (M.limbs 1).length = 1 := by decide +kernel
                                    omega) E1.out HG.out
  by_cases h3:op=3
  ·subst h3;have HE:=hid (show X=M.vTruth false by rw[←HX.out,M.ev,if_neg (by decide),if_neg (by decide),if_pos rfl]);have HC:=hid (fun w'=>truth_v false w');clear HX HT HM HH HKI h1 h2;go_wp2_with fail
   refine(HC.out _).mono ?_;rintro e w1 ⟨v1,rfl,hv1,hx⟩;have HV:=hid hv1;obtain⟨N1,n1,c1,rfl,-⟩:=hv1;have E1:=hid (E.out.trans hx);have HB:=hid (HB1.out.up hx);obtain⟨⟨r0,r1,r2⟩,⟨f0,f1,f2⟩,hz⟩:=box3v HB.out;clear hx b0 b1 b2 b3 b4 b5 HC;go_wp2_with fail
   refine bodyPost_ret (v:=vv (M.vTruth false).1 (M.vTruth false).2.1 N1 n1 c1) (by simp[results,Tryz.results125,go_sem,r0,r1,r2,hz]) rfl ?_;rw[HE.out];exact v_stored HB.out HV.out (Nat.zero_le _) E1.out HG.out
  have hq1:(op==1)=false:=by simpa using h1
  have hq2:(op==2)=false:=by simpa using h2
  have hq3:(op==3)=false:=by simpa using h3
  have HO:=hid (And.intro h1 (And.intro h2 h3));clear h1 h2 h3;go_wp2_with fail
  refine(HT.out _ E.out).mono ?_;rintro e w1 ⟨v1,rfl,hO1,hx,hwd⟩;obtain⟨VA,vn,vc,rfl⟩:=hO1.shape;have HV:=hid hO1.list;have HWD:=hid hwd;replace E:=hid (E.out.trans hx);replace HB0:=hid (HB0.out.up hx);replace HB1:=hid (HB1.out.up hx);clear hx b0 b1 b2 b3 b4 b5 HT hO1 hwd;obtain⟨L,hL⟩:∃L,M.evs m ks=L:=⟨_,rfl⟩;rw[hL] at HV;have HLE:=hid hL;have HLL:=hid (show L.length=kn by rw[←hL,M.evs_len,HKN.out]);clear hL;obtain⟨⟨b0,b1,b2,b3,b4,b5⟩,-,-⟩:=boxF6 HB0.out
  by_cases h4:op=4
  ·subst h4;have HE:=hid (show X=M.mOf m ⟨nm,L.map (·.1),s⟩ L by rw[←HX.out,M.ev,if_neg (by decide),if_neg (by decide),if_neg (by decide),if_pos rfl,HLE.out]);have HS:=hid (show ∀w',Ext w1 w'→Calls Tryz.prog 159 #[.slice VA vn vc] w' (GivesIs w' (L.map (·.1))) from fun w' e=>sorts_v (HV.out.up e) (by have:=HLL.out;have:=HKL.out;have:=H400.out;have:=HKN.out;omega));clear HX HH HKI;go_upto_region 9 with (fail)
   clear b0 b1 b2 b3 b4 b5 hq1 hq2 hq3;refine wp_region_D [(0,0),(1,0),(2,0),(3,0),(5,0),(6,0),(8,0),(4,1),(7,0),(9,1),(10,4)] fun wd hb=>?_;have E1:=hid hb;replace E:=hid (E.out.trans hb);replace HB0:=hid (HB0.out.up hb);replace HB1:=hid (HB1.out.up hb);clear hb;refine WE.p 29 (.slice MA mn mc) ?_;simp only[pX];refine WE.p 30 (.pointer (some ⟨g0,3,none⟩)) ?_;simp only[pX];refine WE.q 31 (str nm) rfl (fun w' hk=>by obtain⟨⟨x0,x1,x2,x3,x4,x5⟩,-,-⟩:=boxF6 (HB0.out.up hk);go_simp) ?_;simp only[pX];refine WE.p 32 (.slice VA vn vc) ?_;simp only[pX];refine WE.p 34 (.pointer (some ⟨g0,4,none⟩)) ?_;simp only[pX];refine WE.q 35 (.int .i64 s) rfl (fun w' hk=>by obtain⟨⟨x0,x1,x2,x3,x4,x5⟩,-,-⟩:=boxF6 (HB0.out.up hk);go_simp) ?_;simp only[pX];refine WE.p 37 (.slice VA vn vc) ?_;simp only[pX];refine WE.c 33 ((HS.out _ E1.out).mono ?_);rintro e w2 ⟨v2,rfl,hi2,hb⟩;refine⟨_,rfl,hb,?_⟩;have hI:=hi2.ints;obtain⟨IA,ic,rfl⟩:=hI.shape;have HI:=hid hI;replace E1:=hid (E1.out.trans hb);replace E:=hid (E.out.trans hb);replace HB0:=hid (HB0.out.up hb);replace HB1:=hid (HB1.out.up hb);clear hb hI hi2 HS;obtain⟨il,hil⟩:∃n,(L.map (·.1)).length=n:=⟨_,rfl⟩;have HSG:=hid (show IsSg w2 ⟨nm,L.map (·.1),s⟩ (sgv nm IA il ic s) from⟨IA,ic,by rw[←hil],HI.out⟩);have hmm:=HM.out w2 E.out;have HC:=hid (of_v (s:=⟨nm,L.map (·.1),s⟩) hmm.list hmm.asc HSG.out (HV.out.up E1.out) hmm.len hmm.wd);have HWX:=hid (M.mOf_wdN (s:=⟨nm,L.map (·.1),s⟩) (fun f hf hn=>(HNO.out f hf).resolve_right fun h=>M.kHas_name h hn) L);rw[←HE.out] at HC HWX;simp only[Act.put,pA,pB,pC,hil];clear hmm HI hil HSG;refine WE.p 36 (sgv nm IA il ic s) ?_;simp only[pX];refine WE.c 38 (HC.out.mono ?_);rintro e w3 ⟨v3,rfl,hv3,hb⟩;refine⟨_,rfl,hb,?_⟩;have HV3:=hid hv3;obtain⟨N3,n3,c3,rfl,-⟩:=hv3;replace E:=hid (E.out.trans hb);replace HB1:=hid (HB1.out.up hb);clear hb HC;obtain⟨⟨r0,r1,r2⟩,⟨f0,f1,f2⟩,hz⟩:=box3v HB1.out;simp only[pX];obtain⟨xs,xg,xl⟩:=X;refine WE.store (w':=put3v w3 (g0+1) (.int .i64 xs) (.bool xg) (.slice N3 n3 c3)) rfl rfl (by rfl) (by go_simp) (by simp) ?_;refine WE.done ?_;have HP:=hid (show GivesVW w (xs,xg,xl) ((U+50*(1+M.kcnts ks))) (.returned (vv xs xg N3 n3 c3)) (put3v w3 (g0+1) (.int .i64 xs) (.bool xg) (.slice N3 n3 c3)) from v_stored HB1.out HV3.out (Nat.le_trans HWX.out (by omega)) E.out HG.out);have hB2:Box (put3v w3 (g0+1) (.int .i64 xs) (.bool xg) (.slice N3 n3 c3)) (g0+1) #[.int .i64 xs,.bool xg,.slice N3 n3 c3] 45:=((HB1.out.setAt 0 _).setAt 1 _).setAt 2 _;obtain⟨W3,hW3⟩:∃W3,W3=put3v w3 (g0+1) (.int .i64 xs) (.bool xg) (.slice N3 n3 c3):=⟨_,rfl⟩;rw[←hW3] at HP hB2 ⊢;clear hW3 r0 r1 r2 f0 f1 f2 hz;obtain⟨⟨r0,r1,r2⟩,-,hz⟩:=box3v hB2;go_wp2_with fail
   exact bodyPost_ret (v:=vv xs xg N3 n3 c3) (by simp[results,Tryz.results125,go_sem,r0,r1,r2,hz]) rfl HP.out
  have hq4:(op==4)=false:=by simpa using h4
  obtain⟨h5,h22,ha,hck,hsk⟩:=M.khead_op HH.out HO.out.1 HO.out.2.1 HO.out.2.2 h4;have HXE:=hid (show X=if op=12 then (if M.vHolds (L.getD 0 (0,false,[]))=true then L.getD 1 (0,false,[]) else L.getD 2 (0,false,[])) else if s=2 then M.vz 2 (M.mReck op (L.map M.cz)) else M.vTruth (M.mTold op L) by rw[←HX.out,M.ev,if_neg HO.out.1,if_neg HO.out.2.1,if_neg HO.out.2.2,if_neg h4,HLE.out]);have HWL:=hid (show ∀x∈L,x.2.2.length+50*L.length≤(U+50*(1+M.kcnts ks)) from fun x hx=>by
   rw[←HLE.out] at hx;obtain⟨k,u,hu,hux⟩:=M.evs_mem hx;have h1:=HWD.out u (List.mem_of_getElem? hu);have h2:=M.kcnts_at' hu;rw[hux] at h1;have h3:=HLL.out;have h4:=HKN.out;omega)
  clear HX
  by_cases h12:op=12
  ·subst h12;have hl3:=M.kargs_three ha;rw[HKN.out] at hl3;obtain⟨x,y,z,hxyz⟩:=M.three_of (show L.length=3 by rw[HLL.out,hl3]);subst hxyz;have HE:=hid (show X=if M.vHolds x=true then y else z by rw[HXE.out,if_pos rfl];rfl);have HC:=hid (show ∀w',Ext w1 w'→Calls Tryz.prog 160 #[.slice VA vn vc] w' (GivesV w' X) from fun w' e=>by rw[HE.out];exact C.chos HPO.out (HV.out.up e));have HWX:=hid (show X.2.2.length≤(U+50*(1+M.kcnts ks)) by
    rw[HE.out];have hy:=HWL.out y (by simp);have hz:=HWL.out z (by simp)
    split<;>omega)
   clear HXE HWL HE ha hck hsk h5 h22 h4 hl3 HWD HLE HLL;go_wp2_with fail
   refine(HC.out _ (Ext.refl _)).mono ?_;rintro e w3 ⟨v3,rfl,hv3,hb⟩;have HV3:=hid hv3;obtain⟨N3,n3,c3,rfl,-⟩:=hv3;replace E:=hid (E.out.trans hb);replace HB1:=hid (HB1.out.up hb);clear hb HC b0 b1 b2 b3 b4 b5;obtain⟨⟨r0,r1,r2⟩,⟨f0,f1,f2⟩,hz⟩:=box3v HB1.out;obtain⟨xs,xg,xl⟩:=X;go_wp2_with fail
   refine bodyPost_ret (v:=vv xs xg N3 n3 c3) (by simp[results,Tryz.results125,go_sem,r0,r1,r2,hz]) rfl ?_;exact v_stored HB1.out HV3.out HWX.out E.out HG.out
  have hq12:(op==12)=false:=by simpa using h12
  by_cases hs2:13≤op∧op≤18
  ·have hs:s=2:=by rw[hsk];unfold M.kres;rw[if_pos (by omega)]
   subst hs;have HE:=hid (show X=M.vz 2 (M.mReck op (L.map M.cz)) by rw[HXE.out,if_neg h12,if_pos rfl]);have hpos:=M.kargs_pos ha;rw[HKN.out] at hpos;have hne:L.map (·.2)≠[]:=fun e=>by
    have h1:=congrArg List.length e;rw[List.length_map,HLL.out] at h1;simp at h1;omega
   have hlen:(L.map (·.2)).length=kn:=by rw[List.length_map,HLL.out]
   obtain⟨Wd,hWd⟩:∃Wd,(U+50*(1+M.kcnts ks))-50*kn=Wd:=⟨_,rfl⟩;have hWx:∀x∈L.map (·.2),x.2.length≤Wd:=fun x hx=>by
    obtain⟨y,hy,rfl⟩:=List.mem_map.1 hx;have h1:=HWL.out y hy;have h2:=HLL.out;show y.2.2.length≤Wd;omega
   have hop:op=13∨(op=14∧L.map (·.2)≠[])∨(op=15∧∃a b:Bool×List Nat,L.map (·.2)=[a,b]∧(a.2.length<64∨b.2.length<64))∨(op=18∧L.map (·.2)≠[])∨((op=16∨op=17)∧∃a b:Bool×List Nat,L.map (·.2)=[a,b]):=by
    by_cases o13:op=13
    ·exact .inl o13
    by_cases o14:op=14
    ·exact .inr (.inl ⟨o14,hne⟩)
    by_cases o18:op=18
    ·exact .inr (.inr (.inr (.inl ⟨o18,hne⟩)))
    have h2:=M.kargs_two ha (by omega);obtain⟨u,u2,hks⟩:=M.two_of h2;have h4:=HLE.out;rw[M.evs_map,hks] at h4
    by_cases o15:op=15
    ·refine .inr (.inr (.inl ⟨o15,_,_,by rw[←h4];rfl,?_⟩));subst o15;have h5:=M.kcheck_lin hck;rw[hks] at h5;replace h5:(if (M.knum u).isNone&&(M.knum u2).isNone then (19:Int) else 0)=0:=h5;have hki:=HKI.out;have hkf:=HF3.out;rw[hks,M.kiss,M.kiss,Bool.and_eq_true,Bool.and_eq_true] at hki;rw[hks,M.kfews,M.kfews,Bool.and_eq_true,Bool.and_eq_true] at hkf;rcases hq:(M.knum u).isNone with _|_
     ·exact .inl (Nat.lt_of_le_of_lt (M.knum_short hki.1 hkf.1 hq) (by decide))
     ·rcases hq2:(M.knum u2).isNone with _|_
      ·exact .inr (Nat.lt_of_le_of_lt (M.knum_short hki.2.1 hkf.2.1 hq2) (by decide))
      ·rw[hq,hq2] at h5;simp at h5
    ·exact .inr (.inr (.inr (.inr ⟨by omega,_,_,by rw[←h4];rfl⟩)))
   have hk2:∀a b:Bool×List Nat,L.map (·.2)=[a,b]→op=15→a.2.length+b.2.length≤(U+50*(1+M.kcnts ks)):=fun a b e o15=>by
    subst o15;have h2:kn=2:=by rw[←hlen,e];rfl
    have h3:=HKN.out;rw[h2] at h3;obtain⟨u,u2,rfl⟩:=M.two_of h3;have h4:=HLE.out;rw[M.evs_map] at h4;rw[←h4] at e;simp only[List.map_cons,List.map_nil,List.cons.injEq,and_true] at e;have w1:=HWD.out u (by simp);have w2:=HWD.out u2 (by simp);have h5:=M.kcheck_lin hck;replace h5:(if (M.knum u).isNone&&(M.knum u2).isNone then (19:Int) else 0)=0:=h5;have hki:=HKI.out;have hkf:=HF3.out;rw[M.kiss,M.kiss,Bool.and_eq_true,Bool.and_eq_true] at hki;rw[M.kfews,M.kfews,Bool.and_eq_true,Bool.and_eq_true] at hkf;rw[←e.1,←e.2];simp only[M.kcnts];rcases hq:(M.knum u).isNone with _|_
    ·have:=M.knum_short (m:=m) hki.1 hkf.1 hq;omega
    ·rcases hq2:(M.knum u2).isNone with _|_
     ·have:=M.knum_short (m:=m) hki.2.1 hkf.2.1 hq2;omega
     ·rw[hq,hq2] at h5;simp at h5
   have HNU:=hid (show ∀w',Ext w1 w'→Calls Tryz.prog 162 #[.slice VA vn vc] w' (GivesNs w' (L.map (·.2))) from fun w' e=>numbers_v (HV.out.up e) (by have:=HLL.out;have:=HKL.out;have:=H400.out;have:=HKN.out;omega));have HRE:=hid (show ∀u w',ZList w' u (L.map (·.2))→Calls Tryz.prog 161 #[.int .i64 op,u] w' (GivesZ w' (M.mReck op (L.map M.cz)) ((U+50*(1+M.kcnts ks)))) from fun u w' hu=>by
    have h:=C.reck (K:=(U+50*(1+M.kcnts ks))) HPO.out hu (by rw[hlen];have:=HKL.out;have:=H400.out;have:=HKN.out;omega) hWx (by have:=H400.out;omega) hop (fun _=>by rw[hlen];have:=HKN.out;have:=HKL.out;omega) hk2;rw[List.map_map] at h;exact h)
   obtain⟨Z,hZ⟩:∃Z,M.mReck op (L.map M.cz)=Z:=⟨_,rfl⟩;rw[hZ] at HRE HE;clear HXE HWL ha hck hsk h5 h22 h4 hne hlen hWd hWx hk2 hop hZ hpos hs2 h12 HWD HLE HLL HH HKI HF3;go_upto_region 13 with (fail)
   clear b0 b1 b2 b3 b4 b5 hq1 hq2 hq3 hq4 hq12;refine wp_region_D [(0,0),(1,0),(2,0),(3,1),(4,1),(5,0),(6,4)] fun wd hb=>?_;have E1:=hid hb;replace E:=hid (E.out.trans hb);replace HB0:=hid (HB0.out.up hb);replace HB1:=hid (HB1.out.up hb);clear hb;refine WE.p 49 (.pointer (some ⟨g0,0,none⟩)) ?_;simp only[pX];refine WE.q 50 (.int .i64 op) rfl (fun w' hk=>by obtain⟨⟨x0,x1,x2,x3,x4,x5⟩,-,-⟩:=boxF6 (HB0.out.up hk);go_simp) ?_;simp only[pX];refine WE.p 51 (.slice VA vn vc) ?_;simp only[pX];refine WE.c 52 ((HNU.out _ E1.out).mono ?_);rintro e w2 ⟨v2,rfl,hj2,hb⟩;refine⟨_,rfl,hb,?_⟩;have HC:=hid (HRE.out v2 w2 hj2.list);obtain⟨IA,ia,ic,rfl⟩:=hj2.shape;replace E:=hid (E.out.trans hb);replace HB1:=hid (HB1.out.up hb);clear hb hj2 HNU HRE;simp only[pX];refine WE.c 53 (HC.out.mono ?_);rintro e w3 ⟨v3,rfl,⟨N3,n3,c3,rfl,hn3,hk3⟩,hb⟩;refine⟨_,rfl,hb,?_⟩;obtain⟨d3,hd3⟩:∃d,decide (Z<0)=d:=⟨_,rfl⟩;have HV3:=hid (show IsVl w3 (M.vz 2 Z) (vv 2 d3 N3 n3 c3) from⟨N3,n3,c3,by rw[←hd3];rfl,hn3⟩);have HWX:=hid (show (M.vz 2 Z).2.2.length≤(U+50*(1+M.kcnts ks)) from hk3);replace E:=hid (E.out.trans hb);replace HB1:=hid (HB1.out.up hb);simp only[Act.put,pA,pB,pC,hd3];clear hb HC hn3 hk3 hd3;obtain⟨⟨r0,r1,r2⟩,⟨f0,f1,f2⟩,hz⟩:=box3v HB1.out;refine WE.p 54 (vv 2 d3 N3 n3 c3) ?_;simp only[pX];refine WE.store (w':=put3v w3 (g0+1) (.int .i64 2) (.bool d3) (.slice N3 n3 c3)) rfl rfl (by rfl) (by go_simp) (by simp) ?_;refine WE.done ?_;have HP:=hid (show GivesVW w X ((U+50*(1+M.kcnts ks))) (.returned (vv 2 d3 N3 n3 c3)) (put3v w3 (g0+1) (.int .i64 2) (.bool d3) (.slice N3 n3 c3)) from HE.out▸v_stored HB1.out HV3.out HWX.out E.out HG.out);have hB2:Box (put3v w3 (g0+1) (.int .i64 2) (.bool d3) (.slice N3 n3 c3)) (g0+1) #[.int .i64 2,.bool d3,.slice N3 n3 c3] 45:=((HB1.out.setAt 0 _).setAt 1 _).setAt 2 _;obtain⟨W3,hW3⟩:∃W3,W3=put3v w3 (g0+1) (.int .i64 2) (.bool d3) (.slice N3 n3 c3):=⟨_,rfl⟩;rw[←hW3] at HP hB2 ⊢;clear hW3 r0 r1 r2 f0 f1 f2 hz;obtain⟨⟨r0,r1,r2⟩,-,hz⟩:=box3v hB2;go_wp2_with fail
   exact bodyPost_ret (v:=vv 2 d3 N3 n3 c3) (by simp[results,Tryz.results125,go_sem,r0,r1,r2,hz]) rfl HP.out
  ·have hs:s=1:=by rw[hsk];unfold M.kres;rw[if_neg (by omega),if_neg h12]
   subst hs;have HE:=hid (show X=M.vTruth (M.mTold op L) by rw[HXE.out,if_neg h12,if_neg (by decide)]);have hl:∀n,ks.length=n→L.length=n:=fun n h=>by rw[HLL.out,←HKN.out,h]
   have HC:=hid (show ∀w',Ext w1 w'→Calls Tryz.prog 163 #[.int .i64 op,.slice VA vn vc] w' (GivesB w' (M.mTold op L)) from fun w' e=>C.told HPO.out (HV.out.up e) (by
    by_cases o5:op=5
    ·exact .inl ⟨o5,M.one_of (hl _ (M.kargs_one ha (by omega)))⟩
    by_cases o6:op=6
    ·exact .inr (.inl o6)
    by_cases o7:op=7
    ·exact .inr (.inr (.inl o7))
    by_cases o8:op=8
    ·exact .inr (.inr (.inr (.inl o8)))
    by_cases o11:op=11
    ·exact .inr (.inr (.inr (.inr (.inl o11))))
    by_cases o9:op=9
    ·exact .inr (.inr (.inr (.inr (.inr (.inl ⟨o9,M.two_of (hl _ (M.kargs_two ha (by omega)))⟩)))))
    by_cases o10:op=10
    ·exact .inr (.inr (.inr (.inr (.inr (.inr (.inl ⟨o10,M.two_of (hl _ (M.kargs_two ha (by omega)))⟩))))))
    ·exact .inr (.inr (.inr (.inr (.inr (.inr (.inr ⟨by omega,M.two_of (hl _ (M.kargs_two ha (by omega)))⟩)))))))
   )
   obtain⟨q,hq⟩:∃q,M.mTold op L=q:=⟨_,rfl⟩;rw[hq] at HC HE;have HTR:=hid (fun w'=>truth_v q w');clear HXE HWL ha hck hsk h5 h22 h4 hl hq hs2 h12 HWD HLE HLL HH HKI HF3;go_wp2_with fail
   refine(HC.out _ (Ext.refl _)).mono ?_;rintro e w2 ⟨rfl,hb⟩;replace E:=hid (E.out.trans hb);replace HB1:=hid (HB1.out.up hb);clear hb HC b0 b1 b2 b3 b4 b5;go_wp2_with fail
   refine(HTR.out _).mono ?_;rintro e w3 ⟨v3,rfl,hv3,hb⟩;have HV3:=hid hv3;obtain⟨N3,n3,c3,rfl,-⟩:=hv3;replace E:=hid (E.out.trans hb);replace HB1:=hid (HB1.out.up hb);have HWX:=hid (show (M.vTruth q).2.2.length≤(U+50*(1+M.kcnts ks)) by
    cases q
    ·exact Nat.zero_le _
    ·have:(M.vTruth true).2.2.length=1:=by decide +kernel
     omega)
   obtain⟨Y,hY⟩:∃Y,M.vTruth q=Y:=⟨_,rfl⟩;rw[hY] at HE HV3 HWX ⊢;clear hb HTR hY;obtain⟨⟨r0,r1,r2⟩,⟨f0,f1,f2⟩,hz⟩:=box3v HB1.out;obtain⟨xs,xg,xl⟩:=Y;go_wp2_with fail
   refine bodyPost_ret (v:=vv xs xg N3 n3 c3) (by simp[results,Tryz.results125,go_sem,r0,r1,r2,hz]) rfl ?_;rw[HE.out];exact v_stored HB1.out HV3.out HWX.out E.out HG.out
end Go.Proofs.YtoenjbkmiphhoaaGreatDoor.Q
