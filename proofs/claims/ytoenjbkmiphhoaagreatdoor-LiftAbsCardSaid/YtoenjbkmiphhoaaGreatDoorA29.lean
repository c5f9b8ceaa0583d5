/-
  Layer 12's words: lists of integers, of a call's own (as XGRow's and XJOwn's, without package lin's words).
-/
import Derived.Test.YtoenjbkmiphhoaaGreatDoorA24
namespace Go.Proofs.YtoenjbkmiphhoaaGreatDoor.Q
open Go.RowKit
set_option linter.unusedSimpArgs false
set_option linter.unusedVariables false
def ZAt (w:World)(ad:Addr)(k:Nat)(x:Bool×List Nat): Prop:=
 ∃A n c,w.cell? (ad.add (k*2))=some (.bool x.1)∧w.cell? ((ad.add (k*2)).add 1)=some (.slice A n c)∧Num w w.heap.size (.slice A n c) x.2
def ZList (w:World)(v:Value)(ls:List (Bool×List Nat)): Prop:=
 ∃A n c,v=.slice A n c∧n=ls.length∧n≤c∧c≤maxLen∧∀k x,ls[k]?=some x→∃ad,A=some ad∧ad.block<w.heap.size∧ZAt w ad k x
theorem ZAt.up {w w':World}{ad:Addr}{k:Nat}{x:Bool×List Nat}(h:ZAt w ad k x)(e:Ext w w')(hb:ad.block<w.heap.size): ZAt w' ad k x:=by
 obtain⟨A,n,c,h1,h2,h3⟩:=h;exact⟨A,n,c,by rw[e.below.cell (by rw[addr_block];exact hb)];exact h1,by rw[e.below.cell (by rw[addr_block,addr_block];exact hb)];exact h2,h3.up e⟩
theorem ZList.up {w w':World}{v:Value}{ls:List (Bool×List Nat)}(h:ZList w v ls)(e:Ext w w'): ZList w' v ls:=by
 obtain⟨A,n,c,h1,h2,h3,h4,h5⟩:=h;refine⟨A,n,c,h1,h2,h3,h4,fun k x hx=>?_⟩;obtain⟨ad,ha,hb,hz⟩:=h5 k x hx;exact⟨ad,ha,Nat.lt_of_lt_of_le hb e.size,hz.up e hb⟩
theorem ZList.shape {w:World}{v:Value}{ls:List (Bool×List Nat)}(h:ZList w v ls): ∃A n c,v=.slice A n c:=by
 obtain⟨A,n,c,h,_⟩:=h;exact⟨A,n,c,h⟩
theorem ZList.count {w:World}{A:Option Addr}{n c:Nat}{ls:List (Bool×List Nat)}(h:ZList w (.slice A n c) ls): n=ls.length∧n≤c∧n≤9223372036854775807:=by
 obtain⟨A',n',c',e,hn,hc,hm,_⟩:=h;injection e with e1 e2 e3;unfold maxLen at hm;exact⟨by omega,by omega,by omega⟩
theorem ZList.get {w:World}{A:Option Addr}{n c:Nat}{ls:List (Bool×List Nat)}(h:ZList w (.slice A n c) ls){k:Nat}{x:Bool×List Nat}(hk:ls[k]?=some x):
 ∃ad A' n' c',A=some ad∧CellAt w (ad.add (k*2)) (.bool x.1)∧CellAt w ((ad.add (k*2)).add 1) (.slice A' n' c')∧Num w w.heap.size (.slice A' n' c') x.2:=by
 obtain⟨A',n',c',e,hn,hc,hm,hz⟩:=h;injection e with e1 e2 e3;subst e1;obtain⟨ad,ha,_,B,p,q,h1,h2,h3⟩:=hz k x hk;exact⟨ad,B,p,q,ha,h1,h2,h3⟩
theorem ZList.nil (w:World)(c:Nat)(hc:c≤maxLen)(A:Option Addr): ZList w (.slice A 0 c) []:=⟨A,0,c,rfl,rfl,Nat.zero_le _,hc,fun k x hx=>by simp at hx⟩
def JCell (w:World)(cur:Array Value)(k:Nat)(x:Bool×List Nat): Prop:=
 ∃A n c,cur[k*2]?=some (.bool x.1)∧cur[k*2+1]?=some (.slice A n c)∧Num w w.heap.size (.slice A n c) x.2
def JOwn (base:Nat)(w:World)(v:Value)(ls:List (Bool×List Nat)): Prop:=
 (v=.slice none 0 0∧ls=[])∨∃g cap cur,v=.slice (some ⟨g,0,none⟩) ls.length cap∧base≤g∧Box w g cur 24∧ls.length≤cap∧cap≤maxLen∧cur.size=cap*2∧noLimb cur=true∧∀k x,ls[k]?=some x→JCell w cur k x
theorem JOwn.list {base:Nat}{w:World}{v:Value}{ls:List (Bool×List Nat)}(h:JOwn base w v ls): ZList w v ls:=by
 rcases h with⟨rfl,rfl⟩|⟨g,cap,cur,rfl,hb,hbox,hc,hm,hs,hno,hz⟩
 ·exact ZList.nil _ _ (Nat.zero_le _) _
 ·refine⟨_,_,_,rfl,rfl,hc,hm,fun k x hk=>⟨_,rfl,hbox.lt,?_⟩⟩;obtain⟨A,n,c,h0,h1,h2⟩:=hz k x hk;refine⟨A,n,c,?_,?_,h2⟩
  ·rw[Addr.add_lit,Nat.zero_add];exact hbox.cell h0
  ·rw[Addr.add_lit,Addr.add_lit,Nat.zero_add];exact hbox.cell h1
theorem JCell.kz {w w':World}{cur:Array Value}{k:Nat}{x:Bool×List Nat}(h:JCell w cur k x)(e:Keeps w w'): JCell w' cur k x:=by
 obtain⟨A,n,c,h0,h1,h2⟩:=h;exact⟨A,n,c,h0,h1,e _ _ h2⟩
theorem JOwn.up {base:Nat}{w w':World}{v:Value}{ls:List (Bool×List Nat)}(h:JOwn base w v ls)(e:Ext w w'): JOwn base w' v ls:=by
 rcases h with⟨rfl,rfl⟩|⟨g,cap,cur,rfl,hb,hbox,hc,hm,hs,hno,hz⟩
 ·exact .inl ⟨rfl,rfl⟩
 ·exact .inr ⟨g,cap,cur,rfl,hb,hbox.up e,hc,hm,hs,hno,fun k x hk=>(hz k x hk).kz e.keeps⟩
theorem JOwn.shape {base:Nat}{w:World}{v:Value}{ls:List (Bool×List Nat)}(h:JOwn base w v ls): ∃A n c,v=.slice A n c:=h.list.shape
theorem JOwn.blk {base:Nat}{w:World}{v:Value}{ls:List (Bool×List Nat)}(h:JOwn base w v ls): base≤ownBlk base v:=by
 rcases h with⟨rfl,rfl⟩|⟨g,cap,cur,rfl,hb,_⟩
 ·exact Nat.le_refl _
 ·exact hb
theorem JOwn.kept {base g':Nat}{w w':World}{v:Value}{ls:List (Bool×List Nat)}(h:JOwn base w v ls)(hk:Kept [g'] w w')(hs:Keeps w w')(hg:g'<base): JOwn base w' v ls:=by
 rcases h with⟨rfl,rfl⟩|⟨g,cap,cur,rfl,hb,hbox,hc,hm,hz,hno,hl⟩
 ·exact .inl ⟨rfl,rfl⟩
 ·exact .inr ⟨g,cap,cur,rfl,hb,hbox.kept hk (by simp;omega),hc,hm,hz,hno,fun k x hx=>(hl k x hx).kz hs⟩
theorem info_IntJ:(Tryz.prog.info? 24).map (fun i=>(i.zero,i.size,i.bytes))=some (some (.agg #[.bool false,.slice none 0 0]),2,32):=by kernel_rfl
theorem noLimb_zerosJ (n:Nat): noLimb (Builtin.zeroCells (Value.agg #[.bool false,.slice none 0 0]).cells n)=true:=by
 unfold noLimb;rw[List.all_eq_true];intro v hv;have hz:(Value.agg #[.bool false,.slice none 0 0]).cells=#[.bool false,.slice none 0 0]:=rfl;rw[hz] at hv;simp[Builtin.zeroCells] at hv;obtain⟨i,_,rfl⟩:=hv;rcases (show i%2=0∨i%2=1 by omega) with e|e<;>rw[e]<;>rfl
theorem noLimb_litJ (b:Bool)(A:Option Addr)(n c:Nat): noLimb #[.bool b,.slice A n c]=true:=rfl
theorem jcell_app {w:World}{cur CS:Array Value}{ls:List (Bool×List Nat)}{b:Bool}{A:Option Addr}{n c:Nat}{l:List Nat}{rest:List Value}(hs:ls.length*2≤cur.size)
 (hCS:CS.toList=cur.toList.take (ls.length*2)++(.bool b::.slice A n c::rest)) (hz:∀k x,ls[k]?=some x→JCell w cur k x) (hm:Num w w.heap.size (.slice A n c) l) :
 ∀k x,(ls++[(b,l)])[k]?=some x→JCell w CS k x:=by
 intro k x hk;have hget:∀i,CS[i]?=CS.toList[i]?:=fun i=>Array.getElem?_toList.symm;have hlt:(cur.toList.take (ls.length*2)).length=ls.length*2:=by
  have e:cur.toList.length=cur.size:=Array.length_toList;rw[List.length_take,e];omega
 rcases Nat.lt_or_ge k ls.length with h|h
 ·rw[List.getElem?_append_left h] at hk;obtain⟨A',n',c',h0,h1,h2⟩:=hz k x hk;refine⟨A',n',c',?_,?_,h2⟩
  ·rw[hget,hCS,List.getElem?_append_left (by rw[hlt];omega),List.getElem?_take,if_pos (by omega),Array.getElem?_toList];exact h0
  ·rw[hget,hCS,List.getElem?_append_left (by rw[hlt];omega),List.getElem?_take,if_pos (by omega),Array.getElem?_toList];exact h1
 ·rw[List.getElem?_append_right h] at hk;have hk0:k=ls.length:=by
   rcases Nat.eq_zero_or_pos (k-ls.length) with e|e
   ·omega
   ·rw[List.getElem?_eq_none (by simp;omega)] at hk;cases hk
  subst hk0;simp at hk;subst hk;refine⟨A,n,c,?_,?_,hm⟩
  ·rw[hget,hCS,List.getElem?_append_right (by rw[hlt];omega),hlt,Nat.sub_self];rfl
  ·rw[hget,hCS,List.getElem?_append_right (by rw[hlt];omega),hlt,show ls.length*2+1-ls.length*2=1 by omega];rfl
theorem appJ_run {base:Nat}{w:World}{v:Value}{ls:List (Bool×List Nat)}{b:Bool}{A:Option Addr}{n c:Nat}{l:List Nat}{gL:Nat}{tL:TypeId}(h:JOwn base w v ls)(hL:Box w gL #[.bool b,.slice A n c] tL)
 (hm:Num w w.heap.size (.slice A n c) l) (hlen:ls.length+1≤1000000) (hbase:base≤w.heap.size) (ty:TypeId) :
 ∃v' w',(Builtin.append_ #[182,182] ty #[v,.slice (some ⟨gL,0,none⟩) 1 1]).run Tryz.prog w=.ok v' w'∧JOwn base w' v' (ls++[(b,l)])∧Kept [ownBlk base v] w w'∧Keeps w w':=by
 obtain⟨i0,hi,hz0,hz1,hz2⟩:=info_parts info_IntJ;have hnews:∀j u,[Value.bool b,.slice A n c][j]?=some u→w.cell? ((⟨gL,0,none⟩:Addr).add j)=some u:=by
  intro j u hj;rw[Addr.add_lit,Nat.zero_add];rcases j with _|_|j
  ·simp at hj;subst hj;exact hL.cell rfl
  ·simp at hj;subst hj;exact hL.cell rfl
  ·simp at hj
 have hl:[Value.bool b,Value.slice A n c].length=1*i0.size:=by rw[hz1];rfl
 have h1:∀u∈[Value.bool b,Value.slice A n c],u.oneCell'=true:=by
  intro u hu;simp at hu;rcases hu with rfl|rfl<;>rfl
 have hcm:∀old,grownCap w (ls.length+1) old 24≤maxLen:=fun old=>grownCap_le_maxLen w _ old _ (by unfold maxLen;omega);have hge:∀old,ls.length+1≤grownCap w (ls.length+1) old 24:=fun old=>grownCap_ge w _ old _;have hll:(ls++[(b,l)]).length=ls.length+1:=by simp
 rcases h with⟨rfl,rfl⟩|⟨g,cap,cur,rfl,hb,hbox,hc,hmx,hs,hno,hz⟩
 ·have hr:=run_append_nil (P:=Tryz.prog) w 182 ty 24 i0 _ Tryz.underlying182 hi hz0 ⟨gL,0,none⟩ 1 1 _ hl hnews (by omega) (by omega) (by rw[hz2];omega);have hE:Ext w (w.drew.alloc (.cells ([Value.bool b,Value.slice A n c].toArray++Builtin.zeroCells (Value.agg #[.bool false,.slice none 0 0]).cells (grownCap w 1 0 24-1)) 24)):=((Ext.refl w).drew').alloc' _;refine⟨_,_,hr,.inr ⟨w.heap.size,_,_,rfl,hbase,Box.new w.drew _ _,hge 0,hcm 0,?_,noLimb_appendL (noLimb_litJ _ _ _ _) (noLimb_zerosJ _),?_⟩,hE.kept _,hE.keeps⟩
  ·rw[Array.size_append,size_zeroCells];have:=hge 0;simp[Value.cells] at this ⊢;omega
  ·intro k x hk;exact(jcell_app (w:=w) (cur:=#[]) (ls:=[]) (by simp) (by simp;rfl) (by simp) hm k x hk).kz hE.keeps
 ·have hsz:ls.length*2≤cur.size:=by rw[hs];omega
  rcases Nat.lt_or_ge cap (ls.length+1) with hcap|hcap
  ·have hr:=run_append_grow (P:=Tryz.prog) w 182 ty 24 i0 _ Tryz.underlying182 hi hz0 ⟨g,0,none⟩ ls.length cap (cur.toList.take (ls.length*2)) (by have e:cur.toList.length=cur.size:=Array.length_toList;rw[List.length_take,e,hz1];omega)
    (fun j u hj=>by
     rw[Addr.add_lit,Nat.zero_add];rw[List.getElem?_take] at hj
     split at hj
     ·exact hbox.cell (by rw[←Array.getElem?_toList];exact hj)
     ·cases hj) ⟨gL,0,none⟩ 1 1 _ hl hnews hcap (by omega) (growslice_fits hcap (by rw[hz2];omega))
   have hE:∀cs,Ext w (w.drew.alloc (.cells cs 24)):=fun cs=>((Ext.refl w).drew').alloc' _;refine⟨_,_,hr,.inr ⟨w.heap.size,_,_,by rw[hll],hbase,Box.new w.drew _ _,by rw[hll];exact hge cap,hcm cap,?_,noLimb_appendL (noLimb_appendL (noLimb_takeL hno _) (noLimb_litJ _ _ _ _)) (noLimb_zerosJ _),?_⟩,(hE _).kept _,(hE _).keeps⟩
   ·rw[Array.size_append,Array.size_append,size_zeroCells];have:=hge cap;simp[Value.cells,List.length_take] at this ⊢;omega
   ·intro k x hk;exact(jcell_app (w:=w) (cur:=cur) (ls:=ls) hsz (by simp;rfl) hz hm k x hk).kz (hE _).keeps
  ·have hr:=run_append_room (P:=Tryz.prog) w 182 ty 24 i0 Tryz.underlying182 hi g ls.length cap cur hbox ⟨gL,0,none⟩ 1 1 _ hl hnews h1 hcap (by rw[hz1,hs];simp;omega);rw[hz1] at hr;have hk:=kept_rowL (w:=w) (g:=g) (cur.toList.take (ls.length*2)++[Value.bool b,Value.slice A n c]++cur.toList.drop (ls.length*2+[Value.bool b,Value.slice A n c].length)).toArray;have hkeep:=keeps_store hbox hno hk;refine⟨_,_,hr,.inr ⟨g,cap,_,by rw[hll],hb,setRow_heap w g cur _ _ _ hbox,by rw[hll];exact hcap,hmx,?_,?_,?_⟩,hk,hkeep⟩
   ·simp[List.length_take,List.length_drop,hs];omega
   ·have:=noLimb_appendL (noLimb_appendL (noLimb_takeL hno (ls.length*2)) (noLimb_litJ b A n c)) (noLimb_dropL hno (ls.length*2+2));simpa using this
   ·intro k x hk';exact(jcell_app (w:=w) (cur:=cur) (ls:=ls) hsz (by simp;rfl) hz hm k x hk').kz hkeep
theorem wpList_appN {base:Nat}{w:World}{ops:Array Oper}{rest:List Oper}{o:Oper}{a:Act}{Q:Exit→Act→World→Prop}(hgd:o.guard=none)(s x:Operand)
 (ho:o.op=.call { callee:=.builtin .append,args:=#[s,x],argTypes:=#[182,182] }) {v:Value} {ls:List (Bool×List Nat)} {b:Bool} {A:Option Addr} {n c:Nat} {l:List Nat} {gL:Nat} {tL:TypeId}
 (hs:a.eval s=v) (hx:a.eval x=.slice (some ⟨gL,0,none⟩) 1 1) (h:JOwn base w v ls) (hL:Box w gL #[.bool b,.slice A n c] tL) (hm:Num w w.heap.size (.slice A n c) l) (hlen:ls.length+1≤1000000) (hbase:base≤w.heap.size)
 (hq:∀v' w',JOwn base w' v' (ls++[(b,l)])→Kept [ownBlk base v] w w'→wpList Tryz.prog ops Q rest (a.put o.dst v') w'):wpList Tryz.prog ops Q (o::rest) a w:=by
 obtain⟨v',w',hr,h2,h3,h4⟩:=appJ_run h hL hm hlen hbase o.type;refine wpList_plain hgd fun K hK=>?_;unfold Oper.wp execOp;simp only[ho,resolve,invoke,builtin,Sem.run_bind,Sem.run_pure,Result.andThen_ok,List.map_toArray,List.map_cons,List.map_nil,hs,hx,hr];exact hK _ _ (hq v' w' h2 h3)
def GivesNs (w:World)(ls:List (Bool×List Nat))(e:Ending)(w':World): Prop:=∃v,e=.returned v∧JOwn w.heap.size w' v ls∧Ext w w'
theorem JOwn.nil (base:Nat)(w:World): JOwn base w (.slice none 0 0) []:=.inl ⟨rfl,rfl⟩
set_option maxHeartbeats 4000000 in
theorem numbers_v {ks:List M.Vl}{v:Value}{w:World}(h:VList w v ks)(hlen:ks.length≤100000): Calls Tryz.prog 162 #[v] w (GivesNs w (ks.map (·.2))):=by
 obtain⟨A,n,c,rfl⟩:=h.shape;obtain⟨hn,hl2,hl3⟩:=h.count;rw[←hn] at hlen;have HK:=hid h;have HN:=hid hn.symm;clear h hn;go_enter Tryz.func162,Tryz.ntmps162
 go_wp2_with fail
 go_loopw[3,8] (fun x i wr=>∃k:Nat,k≤n∧i=.int .i64 k∧Hid (JOwn w.heap.size wr x ((ks.take k).map (·.2))∧Ext w wr)) (fun _ i _=>n-(intOf i).toNat)
 case atStart=>exact⟨0,Nat.zero_le _,rfl,JOwn.nil _ _,Ext.refl _⟩
 case round=>
  obtain⟨k,hk,rfl,hR⟩:=hrel;have E:=hid hR.out.2;obtain⟨L,hL⟩:∃L,(ks.take k).map (·.2)=L:=⟨_,rfl⟩;have hO:=hR.out.1;rw[hL] at hO;have HL:=hid hL;have HLK:=hid (show L.length=k by rw[←HL.out,List.length_map,List.length_take,HN.out];omega);obtain⟨IA,m,ic,rfl⟩:=hO.shape;have HO:=hid hO;clear hR hL hO;rcases Nat.lt_or_ge k n with hlt|hge
  ·have hlt':(k:Int)<(n:Int):=by omega
   obtain⟨x,hx⟩:∃x,ks[k]?=some x:=⟨_,List.getElem?_eq_getElem (by rw[HN.out];exact hlt)⟩;obtain⟨ad,N',nn',nc',rfl,c0,c1,c2,hv⟩:=(HK.out.up E.out).get hx;replace c0:wr.cell? (ad.add (k*3))=some (.int .i64 x.1):=c0;replace c1:wr.cell? ⟨(ad.add (k*3)).block,(ad.add (k*3)).off+1,none⟩=some (.bool x.2.1):=c1;replace c2:wr.cell? ⟨(ad.add (k*3)).block,(ad.add (k*3)).off+2,none⟩=some (.slice N' nn' nc'):=c2;have HU:=hid hx;have HV:=hid hv;have hlen9:=hid (show L.length+1≤1000000 by have:=HLK.out;omega);clear hx hv;go_wp2_with (at_builtin;refine wpList_appN rfl (.tmp 12) (.tmp 15) rfl (base:=w.heap.size) (ls:=L) (b:=x.2.1) (A:=N') (n:=nn') (c:=nc') (l:=x.2.2) (gL:=wr.heap.size+1) (tL:=24) rfl rfl ?own ?box ?num hlen9.out ?base ?_)
   case own=>exact HO.out.up ((Ext.alloc wr _).alloc' _)
   case box=>exact Box.at_ (w:=wr.alloc _) _ _ (by simp)
   case num=>exact HV.out.up ((Ext.alloc wr _).alloc' _)
   case base=>have:=E.out.size;simp;omega
   intro v' w5 hO5 hk5;have HO5:=hid hO5;have E5:=hid (show Ext w w5 from((E.out.alloc' _).alloc' _).keptG hk5 HO.out.blk);clear hO5 hk5;go_wp2_with fail
   go_roundw
   case rel=>exact⟨k+1,by omega,by simp,by rw[List.take_add_one,HU.out,List.map_append,HL.out];exact HO5.out,E5.out⟩
   case measure=>simp[intOf];omega
  ·obtain rfl:k=n:=by omega
   go_wp2;go_ret;refine⟨_,rfl,?_,E.out⟩;have h1:=HL.out;rw[←HN.out,List.take_length] at h1;rw[h1];exact HO.out
theorem box2v {w:World}{k:Nat}{x0 x1:Value}{T:TypeId}(h:Box w k #[x0,x1] T): (w.cell? ⟨k,0,none⟩=some x0∧w.cell? ⟨k,1,none⟩=some x1)∧(w.frozen? ⟨k,0,none⟩=false∧w.frozen? ⟨k,1,none⟩=false)∧k<w.heap.size:=⟨⟨h.k 0,h.k 1⟩,⟨h.free 0,h.free 1⟩,h.lt⟩
abbrev put2v (w:World)(k:Nat)(x0 x1:Value): World:=(w.setCell ⟨k,0,none⟩ x0).setCell ⟨k,1,none⟩ x1
set_option linter.unusedSimpArgs false
set_option linter.unusedVariables false
open Go.RowKit
theorem ZList.at0 {w:World}{A:Option Addr}{n c:Nat}{l:List (Bool×List Nat)}{x:Bool×List Nat}(h:ZList w (.slice A n c) l)(hx:l[0]?=some x): ∃ad N nn nc,A=some ad∧(w.cell? ad=some (.bool x.1)∧w.cell? ⟨ad.block,ad.off+1,none⟩=some (.slice N nn nc))∧LNum w (.slice N nn nc) x.2:=by
 obtain⟨ad,N,nn,nc,rfl,c0,c1,hv⟩:=h.get hx;rw[Nat.zero_mul,Addr.add_zero'] at c0 c1;exact⟨ad,N,nn,nc,rfl,⟨c0,c1⟩,hv⟩
theorem z_stored {w0 w:World}{g n c:Nat}{A:Option Addr}{d:Bool}{Z:Int}{K:Nat}{x0 x1:Value}(hb:Box w g #[.bool false,.slice none 0 0] 24)(hd:decide (Z<0)=d)(hn:LNum w (.slice A n c) (M.limbs Z.natAbs))(hk:(M.limbs Z.natAbs).length≤K)(e:Ext w0 w)(hg:w0.heap.size≤g):
 GivesZ w0 Z K (.returned (.agg #[.bool d,.slice A n c])) (put2v w g x0 x1):=by
 have hkp:Kept [g] w (put2v w g x0 x1):=(kept_setAt _).trans (kept_setAt _);exact⟨_,rfl,⟨A,n,c,by rw[hd],keeps_store hb rfl hkp _ _ hn,hk⟩,e.keptG hkp hg⟩
set_option maxHeartbeats 8000000 in
theorem reck_abs {ls:List (Bool×List Nat)}{v:Value}{w:World}{W K:Nat}(h:ZList w v ls)(hlen:ls.length≤100000)(hW:∀x∈ls,x.2.length≤W)(hW2:W≤100000)(hne:ls≠[])(hK:(18:Int)≠15→W+ls.length+4≤K):
 Calls Tryz.prog 161 #[.int .i64 18,v] w (GivesZ w (M.mReck 18 (ls.map fun x=>M.zv x.1 x.2)) K):=by
 obtain⟨A,n,c,rfl⟩:=h.shape;obtain⟨hn,hl2,hl3⟩:=h.count;have HL:=hid h;have HN:=hid hn.symm;have HW:=hid hW;have hb0:=Box.new w #[.bool false,.slice none 0 0] 24;have E0:=hid (Ext.alloc w (.cells #[.bool false,.slice none 0 0] 24));have HB:=hid hb0;clear hb0;obtain⟨x,r,rfl⟩:∃x r,ls=x::r:=by
  cases ls with
  | nil=>exact absurd rfl hne
  | cons x r=>exact⟨x,r,rfl⟩
 have hn0:¬n=0:=by rw[hn];simp
 have hn0':(0:Int)<(n:Int):=by omega
 obtain⟨ad,N,nn,nc,rfl,⟨c0,c1'⟩,hx⟩:=h.at0 (x:=x) rfl;have HC:=hid (show ∀w',Ext w w'→Calls Tryz.prog 69 #[.agg #[.bool x.1,.slice N nn nc]] w' (GivesZ w' (M.mReck 18 ((x::r).map fun x=>M.zv x.1 x.2)) x.2.length) from fun w' e=>
  abs_w (worth_up (worth_tm (g:=x.1) hx) e) (by have:=hW x (List.mem_cons_self ..);omega))
 have HK:=hid (show x.2.length≤K by have h1:=hK (by decide);have h2:=hW x (List.mem_cons_self ..);omega);obtain⟨Z,hZ⟩:∃Z,M.mReck 18 ((x::r).map fun x=>M.zv x.1 x.2)=Z:=⟨_,rfl⟩;rw[hZ] at HC ⊢;replace c0:=E0.out.cell c0;replace c1':=E0.out.cell c1';clear h hn hlen hW hK hZ hx hne;go_enter Tryz.func161,Tryz.ntmps161
 go_wp2_with fail
 refine(HC.out _ E0.out).mono ?_;rintro e w1 ⟨v1,rfl,⟨A1,n1,c1,rfl,hn1,hk1⟩,hx⟩;have E:=hid (E0.out.trans hx);have HB1:=hid (HB.out.up hx);have HN1:=hid hn1;have HK1:=hid hk1;obtain⟨⟨r0,r1⟩,⟨f0,f1⟩,hz⟩:=box2v HB1.out;obtain⟨d1,hd1⟩:∃d1,decide (Z<0)=d1:=⟨_,rfl⟩;rw[hd1];have HD:=hid hd1;clear hx hn1 hk1 hd1 HC c0 c1';go_wp2_with fail
 refine bodyPost_ret (v:=.agg #[.bool d1,.slice A1 n1 c1]) (by simp[results,Tryz.results161,go_sem,r0,r1,hz]) rfl ?_;exact z_stored HB1.out HD.out HN1.out (Nat.le_trans HK1.out HK.out) E.out (Nat.le_refl _)
set_option linter.unusedSimpArgs false
set_option linter.unusedVariables false
open Go.RowKit
end Go.Proofs.YtoenjbkmiphhoaaGreatDoor.Q
