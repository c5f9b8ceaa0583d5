/-
  Layer 12's words: values in memory (a sort, a bool, a row of limbs), lists of them, lists of the call's own.
-/
import Derived.Test.YtoenjbkmiphhoaaGreatDoorA18
import Derived.Laws.Tables
import Derived.Deep.Cut
import Derived.Deep.Slices
namespace Go.Proofs.YtoenjbkmiphhoaaGreatDoor.Q
open Go.RowKit
set_option linter.unusedSimpArgs false
set_option linter.unusedVariables false
def VAt (w:World)(ad:Addr)(k:Nat)(x:Int×Bool×List Nat): Prop:=
 ∃A n c,w.cell? (ad.add (k*3))=some (.int .i64 x.1)∧w.cell? ((ad.add (k*3)).add 1)=some (.bool x.2.1)∧w.cell? ((ad.add (k*3)).add 2)=some (.slice A n c)∧Num w w.heap.size (.slice A n c) x.2.2
def VList (w:World)(v:Value)(ls:List (Int×Bool×List Nat)): Prop:=
 ∃A n c,v=.slice A n c∧n=ls.length∧n≤c∧c≤maxLen∧∀k x,ls[k]?=some x→∃ad,A=some ad∧ad.block<w.heap.size∧VAt w ad k x
theorem VAt.up {w w':World}{ad:Addr}{k:Nat}{x:Int×Bool×List Nat}(h:VAt w ad k x)(e:Ext w w')(hb:ad.block<w.heap.size): VAt w' ad k x:=by
 obtain⟨A,n,c,h0,h1,h2,h3⟩:=h;exact⟨A,n,c,by rw[e.below.cell (by rw[addr_block];exact hb)];exact h0,by rw[e.below.cell (by rw[addr_block,addr_block];exact hb)];exact h1,by rw[e.below.cell (by rw[addr_block,addr_block];exact hb)];exact h2,h3.up e⟩
theorem VList.up {w w':World}{v:Value}{ls:List (Int×Bool×List Nat)}(h:VList w v ls)(e:Ext w w'): VList w' v ls:=by
 obtain⟨A,n,c,h1,h2,h3,h4,h5⟩:=h;refine⟨A,n,c,h1,h2,h3,h4,fun k x hx=>?_⟩;obtain⟨ad,ha,hb,hz⟩:=h5 k x hx;exact⟨ad,ha,Nat.lt_of_lt_of_le hb e.size,hz.up e hb⟩
theorem VList.shape {w:World}{v:Value}{ls:List (Int×Bool×List Nat)}(h:VList w v ls): ∃A n c,v=.slice A n c:=by
 obtain⟨A,n,c,h,_⟩:=h;exact⟨A,n,c,h⟩
theorem VList.count {w:World}{A:Option Addr}{n c:Nat}{ls:List (Int×Bool×List Nat)}(h:VList w (.slice A n c) ls): n=ls.length∧n≤c∧n≤9223372036854775807:=by
 obtain⟨A',n',c',e,hn,hc,hm,_⟩:=h;injection e with e1 e2 e3;unfold maxLen at hm;exact⟨by omega,by omega,by omega⟩
theorem VList.get {w:World}{A:Option Addr}{n c:Nat}{ls:List (Int×Bool×List Nat)}(h:VList w (.slice A n c) ls){k:Nat}{x:Int×Bool×List Nat}(hk:ls[k]?=some x):
 ∃ad A' n' c',A=some ad∧CellAt w (ad.add (k*3)) (.int .i64 x.1)∧CellAt w ((ad.add (k*3)).add 1) (.bool x.2.1)∧CellAt w ((ad.add (k*3)).add 2) (.slice A' n' c')∧Num w w.heap.size (.slice A' n' c') x.2.2:=by
 obtain⟨A',n',c',e,hn,hc,hm,hz⟩:=h;injection e with e1 e2 e3;subst e1;obtain⟨ad,ha,_,B,p,q,h0,h1,h2,h3⟩:=hz k x hk;exact⟨ad,B,p,q,ha,h0,h1,h2,h3⟩
theorem VList.nil (w:World)(c:Nat)(hc:c≤maxLen)(A:Option Addr): VList w (.slice A 0 c) []:=⟨A,0,c,rfl,rfl,Nat.zero_le _,hc,fun k x hx=>by simp at hx⟩
def VCell (w:World)(cur:Array Value)(k:Nat)(x:Int×Bool×List Nat): Prop:=
 ∃A n c,cur[k*3]?=some (.int .i64 x.1)∧cur[k*3+1]?=some (.bool x.2.1)∧cur[k*3+2]?=some (.slice A n c)∧Num w w.heap.size (.slice A n c) x.2.2
def VOwn (base:Nat)(w:World)(v:Value)(ls:List (Int×Bool×List Nat)): Prop:=
 (v=.slice none 0 0∧ls=[])∨∃g cap cur,v=.slice (some ⟨g,0,none⟩) ls.length cap∧base≤g∧Box w g cur 45∧ls.length≤cap∧cap≤maxLen∧cur.size=cap*3∧noLimb cur=true∧∀k x,ls[k]?=some x→VCell w cur k x
theorem VOwn.list {base:Nat}{w:World}{v:Value}{ls:List (Int×Bool×List Nat)}(h:VOwn base w v ls): VList w v ls:=by
 rcases h with⟨rfl,rfl⟩|⟨g,cap,cur,rfl,hb,hbox,hc,hm,hs,hno,hz⟩
 ·exact VList.nil _ _ (Nat.zero_le _) _
 ·refine⟨_,_,_,rfl,rfl,hc,hm,fun k x hk=>⟨_,rfl,hbox.lt,?_⟩⟩;obtain⟨A,n,c,h0,h1,h2,h3⟩:=hz k x hk;refine⟨A,n,c,?_,?_,?_,h3⟩
  ·rw[Addr.add_lit,Nat.zero_add];exact hbox.cell h0
  ·rw[Addr.add_lit,Addr.add_lit,Nat.zero_add];exact hbox.cell h1
  ·rw[Addr.add_lit,Addr.add_lit,Nat.zero_add];exact hbox.cell h2
theorem VCell.kz {w w':World}{cur:Array Value}{k:Nat}{x:Int×Bool×List Nat}(h:VCell w cur k x)(e:Keeps w w'): VCell w' cur k x:=by
 obtain⟨A,n,c,h0,h1,h2,h3⟩:=h;exact⟨A,n,c,h0,h1,h2,e _ _ h3⟩
theorem VOwn.up {base:Nat}{w w':World}{v:Value}{ls:List (Int×Bool×List Nat)}(h:VOwn base w v ls)(e:Ext w w'): VOwn base w' v ls:=by
 rcases h with⟨rfl,rfl⟩|⟨g,cap,cur,rfl,hb,hbox,hc,hm,hs,hno,hz⟩
 ·exact .inl ⟨rfl,rfl⟩
 ·exact .inr ⟨g,cap,cur,rfl,hb,hbox.up e,hc,hm,hs,hno,fun k x hk=>(hz k x hk).kz e.keeps⟩
theorem VOwn.nil (base:Nat)(w:World): VOwn base w (.slice none 0 0) []:=.inl ⟨rfl,rfl⟩
theorem info_Value:(Tryz.prog.info? 45).map (fun i=>(i.zero,i.size,i.bytes))=some (some (.agg #[.int .i64 0,.bool false,.slice none 0 0]),3,40):=by kernel_rfl
theorem noLimb_appendL {x y:Array Value}(hx:noLimb x=true)(hy:noLimb y=true): noLimb (x++y)=true:=by
 unfold noLimb at *;rw[Array.toList_append,List.all_append,hx,hy];rfl
theorem noLimb_zerosL (n:Nat): noLimb (Builtin.zeroCells (Value.agg #[.int .i64 0,.bool false,.slice none 0 0]).cells n)=true:=by
 unfold noLimb;rw[List.all_eq_true];intro v hv;have hz:(Value.agg #[.int .i64 0,.bool false,.slice none 0 0]).cells=#[.int .i64 0,.bool false,.slice none 0 0]:=rfl;rw[hz] at hv;simp[Builtin.zeroCells] at hv;obtain⟨i,_,rfl⟩:=hv;rcases (show i%3=0∨i%3=1∨i%3=2 by omega) with e|e|e<;>rw[e]<;>rfl
theorem noLimb_takeL {x:Array Value}(hx:noLimb x=true)(k:Nat): noLimb (x.toList.take k).toArray=true:=by
 unfold noLimb at *;rw[List.all_eq_true] at *;intro v hv;exact hx v (List.mem_of_mem_take (by simpa using hv))
theorem noLimb_dropL {x:Array Value}(hx:noLimb x=true)(k:Nat): noLimb (x.toList.drop k).toArray=true:=by
 unfold noLimb at *;rw[List.all_eq_true] at *;intro v hv;exact hx v (List.mem_of_mem_drop (by simpa using hv))
theorem noLimb_litL (V:Int)(b:Bool)(A:Option Addr)(n c:Nat): noLimb #[.int .i64 V,.bool b,.slice A n c]=true:=rfl
theorem kept_rowL {w:World}{g:Nat}(cs:Array Value): Kept [g] w (w.setRow g cs):=by
 refine⟨⟨rfl,rfl,rfl,by simp[World.setRow],fun k hk=>absurd hk (Nat.not_lt_zero _)⟩,fun k _ hx=>?_⟩;have hne:g≠k:=by simp at hx;omega
 unfold World.setRow;simp only;rw[Array.getElem?_modify,if_neg hne]
theorem lcell_app {w:World}{cur CS:Array Value}{ls:List (Int×Bool×List Nat)}{V:Int}{b:Bool}{A:Option Addr}{n c:Nat}{l:List Nat}{rest:List Value}(hs:ls.length*3≤cur.size)
 (hCS:CS.toList=cur.toList.take (ls.length*3)++(.int .i64 V::.bool b::.slice A n c::rest)) (hz:∀k x,ls[k]?=some x→VCell w cur k x) (hm:Num w w.heap.size (.slice A n c) l) :
 ∀k x,(ls++[(V,b,l)])[k]?=some x→VCell w CS k x:=by
 intro k x hk;have hget:∀i,CS[i]?=CS.toList[i]?:=fun i=>Array.getElem?_toList.symm;have hlt:(cur.toList.take (ls.length*3)).length=ls.length*3:=by
  have e:cur.toList.length=cur.size:=Array.length_toList;rw[List.length_take,e];omega
 rcases Nat.lt_or_ge k ls.length with h|h
 ·rw[List.getElem?_append_left h] at hk;obtain⟨A',n',c',h0,h1,h2,h3⟩:=hz k x hk;refine⟨A',n',c',?_,?_,?_,h3⟩
  ·rw[hget,hCS,List.getElem?_append_left (by rw[hlt];omega),List.getElem?_take,if_pos (by omega),Array.getElem?_toList];exact h0
  ·rw[hget,hCS,List.getElem?_append_left (by rw[hlt];omega),List.getElem?_take,if_pos (by omega),Array.getElem?_toList];exact h1
  ·rw[hget,hCS,List.getElem?_append_left (by rw[hlt];omega),List.getElem?_take,if_pos (by omega),Array.getElem?_toList];exact h2
 ·rw[List.getElem?_append_right h] at hk;have hk0:k=ls.length:=by
   rcases Nat.eq_zero_or_pos (k-ls.length) with e|e
   ·omega
   ·rw[List.getElem?_eq_none (by simp;omega)] at hk;cases hk
  subst hk0;simp at hk;subst hk;refine⟨A,n,c,?_,?_,?_,hm⟩
  ·rw[hget,hCS,List.getElem?_append_right (by rw[hlt];omega),hlt,Nat.sub_self];rfl
  ·rw[hget,hCS,List.getElem?_append_right (by rw[hlt];omega),hlt,show ls.length*3+1-ls.length*3=1 by omega];rfl
  ·rw[hget,hCS,List.getElem?_append_right (by rw[hlt];omega),hlt,show ls.length*3+2-ls.length*3=2 by omega];rfl
def ownBlk (base:Nat)(v:Value): Nat:=match v with | .slice (some ad) _ _=>ad.block|_=>base
theorem VOwn.blk {base:Nat}{w:World}{v:Value}{ls:List (Int×Bool×List Nat)}(h:VOwn base w v ls): base≤ownBlk base v:=by
 rcases h with⟨rfl,rfl⟩|⟨g,cap,cur,rfl,hb,_⟩
 ·exact Nat.le_refl _
 ·exact hb
theorem VOwn.kept {base g':Nat}{w w':World}{v:Value}{ls:List (Int×Bool×List Nat)}(h:VOwn base w v ls)(hk:Kept [g'] w w')(hs:Keeps w w')(hg:g'<base): VOwn base w' v ls:=by
 rcases h with⟨rfl,rfl⟩|⟨g,cap,cur,rfl,hb,hbox,hc,hm,hz,hno,hl⟩
 ·exact .inl ⟨rfl,rfl⟩
 ·exact .inr ⟨g,cap,cur,rfl,hb,hbox.kept hk (by simp;omega),hc,hm,hz,hno,fun k x hx=>(hl k x hx).kz hs⟩
theorem appV_run {base:Nat}{w:World}{v:Value}{ls:List (Int×Bool×List Nat)}{V:Int}{b:Bool}{A:Option Addr}{n c:Nat}{l:List Nat}{gL:Nat}{tL:TypeId}(h:VOwn base w v ls)(hL:Box w gL #[.int .i64 V,.bool b,.slice A n c] tL)
 (hm:Num w w.heap.size (.slice A n c) l) (hlen:ls.length+1≤1000000) (hbase:base≤w.heap.size) (ty:TypeId) :
 ∃v' w',(Builtin.append_ #[67,67] ty #[v,.slice (some ⟨gL,0,none⟩) 1 1]).run Tryz.prog w=.ok v' w'∧VOwn base w' v' (ls++[(V,b,l)])∧Kept [ownBlk base v] w w'∧Keeps w w':=by
 obtain⟨i0,hi,hz0,hz1,hz2⟩:=info_parts info_Value;have hnews:∀j u,[Value.int .i64 V,.bool b,.slice A n c][j]?=some u→w.cell? ((⟨gL,0,none⟩:Addr).add j)=some u:=by
  intro j u hj;rw[Addr.add_lit,Nat.zero_add];rcases j with _|_|_|j
  ·simp at hj;subst hj;exact hL.cell rfl
  ·simp at hj;subst hj;exact hL.cell rfl
  ·simp at hj;subst hj;exact hL.cell rfl
  ·simp at hj
 have hl:[Value.int .i64 V,Value.bool b,Value.slice A n c].length=1*i0.size:=by rw[hz1];rfl
 have h1:∀u∈[Value.int .i64 V,Value.bool b,Value.slice A n c],u.oneCell'=true:=by
  intro u hu;simp at hu;rcases hu with rfl|rfl|rfl<;>rfl
 have hcm:∀old,grownCap w (ls.length+1) old 45≤maxLen:=fun old=>grownCap_le_maxLen w _ old _ (by unfold maxLen;omega);have hge:∀old,ls.length+1≤grownCap w (ls.length+1) old 45:=fun old=>grownCap_ge w _ old _;have hll:(ls++[(V,b,l)]).length=ls.length+1:=by simp
 rcases h with⟨rfl,rfl⟩|⟨g,cap,cur,rfl,hb,hbox,hc,hmx,hs,hno,hz⟩
 ·have hr:=run_append_nil (P:=Tryz.prog) w 67 ty 45 i0 _ Tryz.underlying67 hi hz0 ⟨gL,0,none⟩ 1 1 _ hl hnews (by omega) (by omega) (by rw[hz2];omega);have hE:Ext w (w.drew.alloc (.cells ([Value.int .i64 V,Value.bool b,Value.slice A n c].toArray++Builtin.zeroCells (Value.agg #[.int .i64 0,.bool false,.slice none 0 0]).cells (grownCap w 1 0 45-1)) 45)):=((Ext.refl w).drew').alloc' _;refine⟨_,_,hr,.inr ⟨w.heap.size,_,_,rfl,hbase,Box.new w.drew _ _,hge 0,hcm 0,?_,noLimb_appendL (noLimb_litL _ _ _ _ _) (noLimb_zerosL _),?_⟩,hE.kept _,hE.keeps⟩
  ·rw[Array.size_append,size_zeroCells];have:=hge 0;simp[Value.cells] at this ⊢;omega
  ·intro k x hk;exact(lcell_app (w:=w) (cur:=#[]) (ls:=[]) (by simp) (by simp;rfl) (by simp) hm k x hk).kz hE.keeps
 ·have hsz:ls.length*3≤cur.size:=by rw[hs];omega
  rcases Nat.lt_or_ge cap (ls.length+1) with hcap|hcap
  ·have hr:=run_append_grow (P:=Tryz.prog) w 67 ty 45 i0 _ Tryz.underlying67 hi hz0 ⟨g,0,none⟩ ls.length cap (cur.toList.take (ls.length*3)) (by have e:cur.toList.length=cur.size:=Array.length_toList;rw[List.length_take,e,hz1];omega)
    (fun j u hj=>by
     rw[Addr.add_lit,Nat.zero_add];rw[List.getElem?_take] at hj
     split at hj
     ·exact hbox.cell (by rw[←Array.getElem?_toList];exact hj)
     ·cases hj) ⟨gL,0,none⟩ 1 1 _ hl hnews hcap (by omega) (growslice_fits hcap (by rw[hz2];omega))
   have hE:∀cs,Ext w (w.drew.alloc (.cells cs 45)):=fun cs=>((Ext.refl w).drew').alloc' _;refine⟨_,_,hr,.inr ⟨w.heap.size,_,_,by rw[hll],hbase,Box.new w.drew _ _,by rw[hll];exact hge cap,hcm cap,?_,noLimb_appendL (noLimb_appendL (noLimb_takeL hno _) (noLimb_litL _ _ _ _ _)) (noLimb_zerosL _),?_⟩,(hE _).kept _,(hE _).keeps⟩
   ·rw[Array.size_append,Array.size_append,size_zeroCells];have:=hge cap;simp[Value.cells,List.length_take] at this ⊢;omega
   ·intro k x hk;exact(lcell_app (w:=w) (cur:=cur) (ls:=ls) hsz (by simp;rfl) hz hm k x hk).kz (hE _).keeps
  ·have hr:=run_append_room (P:=Tryz.prog) w 67 ty 45 i0 Tryz.underlying67 hi g ls.length cap cur hbox ⟨gL,0,none⟩ 1 1 _ hl hnews h1 hcap (by rw[hz1,hs];simp;omega);rw[hz1] at hr;have hk:=kept_rowL (w:=w) (g:=g) (cur.toList.take (ls.length*3)++[Value.int .i64 V,Value.bool b,Value.slice A n c]++cur.toList.drop (ls.length*3+[Value.int .i64 V,Value.bool b,Value.slice A n c].length)).toArray;have hkeep:=keeps_store hbox hno hk;refine⟨_,_,hr,.inr ⟨g,cap,_,by rw[hll],hb,setRow_heap w g cur _ _ _ hbox,by rw[hll];exact hcap,hmx,?_,?_,?_⟩,hk,hkeep⟩
   ·simp[List.length_take,List.length_drop,hs];omega
   ·have:=noLimb_appendL (noLimb_appendL (noLimb_takeL hno (ls.length*3)) (noLimb_litL V b A n c)) (noLimb_dropL hno (ls.length*3+3));simpa using this
   ·intro k x hk';exact(lcell_app (w:=w) (cur:=cur) (ls:=ls) hsz (by simp;rfl) hz hm k x hk').kz hkeep
set_option linter.unusedSimpArgs false
set_option linter.unusedVariables false
namespace M
abbrev Vl:=Int×Bool×List Nat
def cz (x:Vl): Int:=M.zv x.2.1 x.2.2
def vz (s Z:Int): Vl:=(s,decide (Z<0),M.limbs Z.natAbs)
theorem cz_vz (s Z:Int): cz (vz s Z)=Z:=M.zv_of Z
def canon (x:Vl): Prop:=x.2.1=decide (cz x<0)∧x.2.2=M.limbs (cz x).natAbs
theorem canon_isZ {x:Vl}(h:M.isZ x.2.1 x.2.2=true): canon x:=⟨(M.zv_lt h).symm,(M.limbs_zv h).symm⟩
def vSame (x y:Vl): Bool:=decide (x.1=y.1)&&decide (cz x=cz y)
def vSames:List Vl→List Vl→Bool
 | [],[]=>true
 | x::r,y::s=>vSame x y&&vSames r s
 | _,_=>false
def vIs (x:Vl)(s:Int): Bool:=decide (x.1=s)&&(M.isZ x.2.1 x.2.2&&(decide (s=2)||(decide (cz x=0)||decide (cz x=1))))
def vIss:List Vl→List Int→Bool
 | [],[]=>true
 | x::r,s::q=>vIs x s&&vIss r q
 | _,_=>false
structure Fn where
 sg:Sg
 rows:List (List Vl×Vl)
 els:Vl
def fnIs (f:Fn): Bool:=ksig f.sg&&(vIs f.els f.sg.ret&&f.rows.all fun r=>vIss r.1 f.sg.args&&vIs r.2 f.sg.ret)
def okAt (l:List Fn)(k:Nat): Bool:=match l[k]? with|none=>true|some f=>(decide (k=0)||(match l[k-1]? with|none=>true|some g=>Go.Op.bytesLess g.sg.name f.sg.name))&&fnIs f
def mIs (l:List Fn): Bool:=(List.range l.length).all (okAt l)
theorem mIs_true {l:List Fn}: mIs l=true↔∀k,k<l.length→okAt l k=true:=by
 unfold mIs;rw[List.all_eq_true];simp
theorem not_mIs {l:List Fn}{k:Nat}(hk:k<l.length)(h:okAt l k=false): mIs l=false:=by
 rcases hq:mIs l with _|_
 ·rfl
 ·rw[mIs_true.1 hq k hk] at h;cases h
def mRead (m:List Fn): List Fn:=if mIs m=true then m else[]
def mOf (m:List Fn)(s:Sg)(l:List Vl): Vl:=
 match m.find? fun f=>decide (f.sg=s) with
 | none=>(s.ret,false,[])
 | some f=>match f.rows.find? fun r=>vSames r.1 l with
  | some r=>r.2
  | none=>f.els
def mSum (l:List Int): Int:=l.foldl (·+·) 0
def mReck (op:Int)(l:List Int): Int:=
 if op=13 then mSum l else if op=14 then (match l with|[]=>0|[a]=>-a|a::r=>a-mSum r)
 else if op=15 then l.getD 0 0*l.getD 1 0 else if op=18 then ((l.getD 0 0).natAbs:Int)
 else if op=16 then (l.getD 0 0)/(l.getD 1 0) else (l.getD 0 0)%(l.getD 1 0)
def vHolds (x:Vl): Bool:=decide (0<cz x)
def vDist:List Vl→Bool
 | []=>true
 | x::r=>!(r.any fun y=>vSame x y)&&vDist r
def mTold (op:Int)(v:List Vl): Bool:=
 let x:=v.getD 0 (0,false,[])
 let y:=v.getD 1 (0,false,[])
 if op=5 then !vHolds x else if op=6 then v.all vHolds else if op=7 then v.any vHolds else if op=9 then !vHolds x||vHolds y
 else if op=10 then vSame x y else if op=8∨op=11 then vDist v
 else if op=19 then decide (cz x≤cz y) else if op=20 then decide (cz x<cz y) else if op=21 then decide (cz y≤cz x) else decide (cz y<cz x)
def vTruth (b:Bool): Vl:=if b=true then vz 1 1 else (1,false,[])
mutual
def ev (m:List Fn): Tm→Vl
 | .mk op g ls nm s ks=>
  if op=1 then (2,g,ls) else if op=2 then vTruth true else if op=3 then vTruth false
  else if op=4 then mOf m ⟨nm,(evs m ks).map (·.1),s⟩ (evs m ks)
  else if op=12 then (if vHolds ((evs m ks).getD 0 (0,false,[]))=true then (evs m ks).getD 1 (0,false,[]) else (evs m ks).getD 2 (0,false,[]))
  else if s=2 then vz 2 (mReck op ((evs m ks).map cz)) else vTruth (mTold op (evs m ks))
def evs (m:List Fn): List Tm→List Vl
 | []=>[]
 | t::r=>ev m t::evs m r
end
theorem evs_map (m:List Fn): ∀l,evs m l=l.map (ev m)
 | []=>rfl
 | t::r=>by rw[evs,List.map_cons,evs_map m r]
def mEval (m:List Fn)(t:Tm): Vl:=if kIs t=true then ev (mRead m) t else (1,false,[])
def mPut (m:List Fn)(f:Fn): List Fn:=(m.takeWhile fun g=>Go.Op.bytesLess g.sg.name f.sg.name)++f::((m.dropWhile fun g=>Go.Op.bytesLess g.sg.name f.sg.name).dropWhile fun g=>decide (g.sg.name=f.sg.name))
end M
set_option linter.unusedSimpArgs false
set_option linter.unusedVariables false
open Go.RowKit
namespace M
def n0T:Tm:=.mk 1 false [] [] 2 []
theorem limbs0:M.limbs 0=[]:=by rw[M.limbs];rfl
theorem knumT0:knumT 0=n0T:=by
 show Tm.mk 1 (decide ((0:Int)<0)) (M.limbs 0) [] 2 []=_;rw[limbs0];rfl
theorem isZ_nil:M.isZ false []=true:=by decide
theorem zv_nil:M.zv false []=0:=by decide
end M
namespace M
end M
section
variable {P:Program} {ops:Array Oper} {Q:Exit→Act→World→Prop} {A:Nat→TypeId×Array Value} {B:Nat} {i:Nat} {r:List (Nat×Nat)} {G:List Nat} {a:Act} {w:World} {d:Option Tmp}
end
theorem tmAt_of {w:World}{t:M.Tm}{op:Int}{g:Bool}{N A:Option Addr}{nn nc n c:Nat}{nm:List UInt8}{so:Int}{a:Addr}(h:IsTm w t (kv op g N nn nc nm so A n c))(hc:Cell6 w a op g (.slice N nn nc) nm so (.slice A n c)): TmAt w t a:=by
 obtain⟨o',g',ls,nm',so',ks⟩:=t;obtain⟨N',nn',nc',A',c',e,h2,h3⟩:=h;simp only[kv,Value.agg.injEq,Array.mk.injEq,List.cons.injEq,and_true,Value.int.injEq,Value.bool.injEq,Value.slice.injEq,true_and] at e;obtain⟨e1,e2,⟨e3,e4,e5⟩,e6,e7,e8,e9,e10⟩:=e;subst e3 e4 e5 e8 e9 e10;refine tmAt_mk.2 ⟨N,nn,nc,_,?_,h2,h3⟩;rw[show o'=op from e1.symm,show g'=g from e2.symm,show so'=so from e7.symm];unfold Cell6 at hc ⊢;rw[e6] at hc;exact hc
theorem tms_one {w:World}{t:M.Tm}{op:Int}{g:Bool}{N A:Option Addr}{nn nc n c gb:Nat}{nm:List UInt8}{so:Int}{T:TypeId}(h:IsTm w t (kv op g N nn nc nm so A n c))
 (hb:Box w gb #[.int .i64 op,.bool g,.slice N nn nc,str nm,.int .i64 so,.slice A n c] T):Tms w [t] (.slice (some ⟨gb,0,none⟩) 1 1):=by
 refine Tms.mk_ ⟨_,_,_,rfl,rfl,Nat.le_refl _,by decide,fun _=>⟨_,rfl,hb.lt,fun k u hk=>?_⟩⟩;rcases k with _|k
 ·simp at hk;subst hk;refine tmAt_of h ?_;unfold Cell6;exact⟨⟨hb.k 0,hb.k 1,hb.k 2⟩,hb.k 3,hb.k 4,hb.k 5⟩
 ·simp at hk
theorem tms_two {w:World}{t t':M.Tm}{op op':Int}{g g':Bool}{N A N' A':Option Addr}{nn nc n c nn' nc' n' c' gb:Nat}{nm nm':List UInt8}{so so':Int}{T:TypeId}(h:IsTm w t (kv op g N nn nc nm so A n c))(h':IsTm w t' (kv op' g' N' nn' nc' nm' so' A' n' c'))
 (hb:Box w gb #[.int .i64 op,.bool g,.slice N nn nc,str nm,.int .i64 so,.slice A n c,.int .i64 op',.bool g',.slice N' nn' nc',str nm',.int .i64 so',.slice A' n' c'] T):Tms w [t,t'] (.slice (some ⟨gb,0,none⟩) 2 2):=by
 refine Tms.mk_ ⟨_,_,_,rfl,rfl,Nat.le_refl _,by decide,fun _=>⟨_,rfl,hb.lt,fun k u hk=>?_⟩⟩;rcases k with _|_|k
 ·simp at hk;subst hk;refine tmAt_of h ?_;unfold Cell6;exact⟨⟨hb.k 0,hb.k 1,hb.k 2⟩,hb.k 3,hb.k 4,hb.k 5⟩
 ·simp at hk;subst hk;refine tmAt_of h' ?_;unfold Cell6;exact⟨⟨hb.k 6,hb.k 7,hb.k 8⟩,hb.k 9,hb.k 10,hb.k 11⟩
 ·simp at hk
theorem put6_kept {w:World}{k:Nat}{x0 x1 x2 x3 x4 x5:Value}: Kept [k] w (put6 w k x0 x1 x2 x3 x4 x5):=((((((kept_setAt x0).trans (kept_setAt x1)).trans (kept_setAt x2)).trans (kept_setAt x3)).trans (kept_setAt x4)).trans (kept_setAt x5))
namespace M
end M
set_option linter.unusedSimpArgs false
set_option linter.unusedVariables false
open Go.RowKit
theorem M.kcnt_kids (t:M.Tm): M.kcnt t=1+M.kcnts t.kids:=by rw[M.Tm.eta t,M.kcnt];rfl
set_option maxHeartbeats 4000000 in
theorem counted_n:∀(N:Nat) {ks:List M.Tm} {v:Value} {m:Nat} {w:World},M.kcnts ks<N→Tms w ks v→m≤401→Calls Tryz.prog 133 #[.int .i64 (m:Int),v] w (GivesI w ((min (m+M.kcnts ks) 401:Nat):Int)):=by
 intro N
 induction N with
 | zero=>intro ks v m w h;omega
 | succ N ih=>
  intro ks v m w hN hk hm;obtain⟨A,c,rfl⟩:=hk.shape;obtain⟨hl1,hl2,hl4⟩:=hk.le;obtain⟨n,hn⟩:∃n,ks.length=n:=⟨_,rfl⟩;obtain⟨z,hz⟩:∃z,min (m+M.kcnts ks) 401=z:=⟨_,rfl⟩;rw[hz];rw[hn] at hk hl2 ⊢;have HK:=hid hk;have IH:=@hid _ @ih;have HZ:=hid (show z=min (m+M.kcnts (ks.take n)) 401 by rw[←hn,List.take_length,←hz]);have HNN:=hid hN;clear hk ih hn hl1 hz hN;go_enter Tryz.func133,Tryz.ntmps133
  go_wp2_with fail
  go_loopw[0,9] (fun x i wr=>∃(k s:Nat),x=.int .i64 (s:Int)∧i=.int .i64 (k:Int)∧k≤n∧s≤401∧Hid (s=min (m+M.kcnts (ks.take k)) 401∧Ext w wr)) (fun _ i _=>n-(intOf i).toNat)
  case atStart=>exact⟨0,m,rfl,rfl,Nat.zero_le _,hm,by simp[M.kcnts];omega,Ext.refl _⟩
  case round=>
   obtain⟨k,s,rfl,rfl,hk,hs,hR⟩:=hrel;have E:=hid hR.out.2;have HS:=hid hR.out.1;clear hR;rcases Nat.lt_or_ge k n with hlt|hge
   ·have hlt':(k:Int)<(n:Int):=by omega
    obtain⟨ad,u,N',nn',nc',B,d,rfl,hu,⟨c0,c1,c2,c3,c4,c5⟩,hv⟩:=(HK.out.up E.out).get hlt;have HU:=hid hu;rcases Nat.lt_or_ge 400 s with h4|h4
    ·have hq:400<(s:Int):=by omega
     clear hu hv;go_wp2;go_ret;obtain rfl:s=z:=by
      have h1:=HS.out;have h2:=HZ.out;have h3:=M.kcnts_take_le (ks.take n) k;rw[List.take_take,Nat.min_eq_left (by omega)] at h3;omega
     exact⟨rfl,E.out.alloc' _⟩
    ·have hq:decide (400<(s:Int))=false:=by simp;omega
     obtain⟨y,hy⟩:∃y,s+1=y:=⟨_,rfl⟩;have hsi:(s:Int)+1=(y:Int):=by omega
     obtain⟨q,hqq⟩:∃q,min (y+M.kcnts u.kids) 401=q:=⟨_,rfl⟩;have HQ:=hid (show q=min (s+M.kcnt u) 401 by rw[←hqq,←hy,M.kcnt_kids u];omega);have hkd:=hv.num.2;have HC:=hid (show ∀w',Ext wr w'→Calls Tryz.prog 133 #[.int .i64 (y:Int),.slice B u.kids.length d] w' (GivesI w' (q:Int)) from fun w' e=>by
      rw[←hqq];refine IH.out ?_ (hkd.up e) (by omega);have h1:=M.kcnts_at HU.out;have h3:=HNN.out;have h4:=M.kcnt_kids u;omega)
     have hq9:q≤401:=by omega
     clear hu hv hkd hy hqq;go_wp2_with (go_at_call 133;refine(HC.out _ (Ext.alloc _ _)).mono ?_;rintro e w' ⟨rfl,hb⟩;replace E:=hid ((E.out.alloc' _).trans hb);clear hb)
     go_roundw
     case rel=>exact⟨k+1,q,rfl,by simp,by omega,hq9,by
      have h1:=HS.out;have h2:=HQ.out;rw[M.kcnts_take HU.out];omega,E.out⟩
     case measure=>simp[intOf];omega
   ·obtain rfl:k=n:=by omega
    go_wp2;go_ret;obtain rfl:s=z:=by rw[HS.out,HZ.out]
    exact⟨rfl,E.out⟩
theorem counted_any {ks:List M.Tm}{v:Value}{m:Nat}{w:World}(h:Tms w ks v)(hm:m≤401): Calls Tryz.prog 133 #[.int .i64 (m:Int),v] w (GivesI w ((min (m+M.kcnts ks) 401:Nat):Int)):=
 counted_n (M.kcnts ks+1) (Nat.lt_succ_self _) h hm
theorem count_t (t:M.Tm){v:Value}{w:World}(h:IsTm w t v): Calls Tryz.prog 92 #[v] w (GivesI w ((min (M.kcnt t) 401:Nat):Int)):=by
 obtain⟨N,nn,nc,A,n,c,rfl,-,-,-,-,-,-⟩:=h.shape;obtain⟨op,hop⟩:∃x,t.op=x:=⟨_,rfl⟩;obtain⟨g,hg⟩:∃x,t.g=x:=⟨_,rfl⟩;obtain⟨nm,hnm⟩:∃x,t.name=x:=⟨_,rfl⟩;obtain⟨so,hso⟩:∃x,t.sort=x:=⟨_,rfl⟩;rw[hop,hg,hnm,hso] at h ⊢;have hK:Tms (kboxed (kboxed w op g N nn nc nm so A n c) op g N nn nc nm so A n c) [t] (.slice (some ⟨w.heap.size+1,0,none⟩) 1 1):=by
  have:=tms_one (h.up ((Ext.alloc w (.cells #[.int .i64 op,.bool g,.slice N nn nc,str nm,.int .i64 so,.slice A n c] 27)).alloc' (.cells #[.int .i64 op,.bool g,.slice N nn nc,str nm,.int .i64 so,.slice A n c] 27))) (Box.new _ _ _)
  rwa [show (kboxed w op g N nn nc nm so A n c).heap.size=w.heap.size+1 by simp] at this
 obtain⟨z,hz⟩:∃z,min (M.kcnt t) 401=z:=⟨_,rfl⟩;have H:=hid (show Calls Tryz.prog 133 #[.int .i64 0,.slice (some ⟨w.heap.size+1,0,none⟩) 1 1] (kboxed (kboxed w op g N nn nc nm so A n c) op g N nn nc nm so A n c) (GivesI (kboxed (kboxed w op g N nn nc nm so A n c) op g N nn nc nm so A n c) (z:Int)) by
  have:=counted_any (m:=0) hK (by omega);rw[show M.kcnts [t]=M.kcnt t by simp[M.kcnts],Nat.zero_add,hz] at this;exact this)
 rw[hz];clear h hop hg hnm hso hK hz;go_enter Tryz.func92,Tryz.ntmps92
 go_wp2_with fail
 refine H.out.mono ?_;rintro e w' ⟨rfl,hb⟩;have E:=hid hb;clear hb;go_wp2;go_ret;exact⟨rfl,((Ext.alloc w _).alloc' _).trans E.out⟩
theorem equalI_n {u v:Value}{l m:List Int}{w:World}(hu:Ints w l u)(hv:Ints w m v):
 Calls Tryz.prog 226 #[u,v] w (GivesB w (decide (l=m))):=by
 obtain⟨A,c,rfl⟩:=hu.shape;obtain⟨A',c',rfl⟩:=hv.shape;obtain⟨hl1,hl2,hl3⟩:=hu.le;obtain⟨n,hn⟩:∃n,l.length=n:=⟨_,rfl⟩;obtain⟨n',hn'⟩:∃n',m.length=n':=⟨_,rfl⟩;rw[hn] at hu hl2 ⊢;rw[hn'] at hv ⊢;have HR:=hid hu;have HR':=hid hv;have HN:=hid hn;have HN':=hid hn';have hb:n≤9223372036854775807:=by omega
 clear hu hv hn hn' hl1 hl2 hl3
 by_cases hnn:n=n'
 ·subst hnn;go_enter Tryz.func226,Tryz.ntmps226
  go_wp2;go_loopw[13] (fun i wr=>∃k p:Nat,k≤n∧i=.int .i64 k∧wr=w.drewN p∧l.take k=m.take k) (fun i _=>n-(intOf i).toNat)
  case atStart=>exact⟨0,0,Nat.zero_le _,rfl,rfl,rfl⟩
  case round=>
   obtain⟨k,p,hk,rfl,rfl,he⟩:=hrel;have HE:=hid he;clear he
   by_cases hlt:k<n
   ·obtain⟨ad,x,rfl,hX,hcell⟩:=HR.out.get hlt;obtain⟨ad',x',rfl,hX',hcell'⟩:=HR'.out.get hlt;have HX:=hid hX;have HX':=hid hX';clear hX hX'
    by_cases hx:x=x'
    ·subst hx;go_wp2;go_quiet (fail)
     go_wp2;go_roundw
     case rel=>exact⟨k+1,p+nq,by omega,by go_num,rfl,by rw[List.take_add_one,List.take_add_one,HE.out,HX.out,HX'.out]⟩
     case measure=>simp[intOf];all_goals omega
    ·have hx':=hid hx;have hne:(x != x')=true:=by simpa using hx
     clear hx;go_wp2;go_quiet (fail)
     go_wp2;go_ret;refine⟨ret_bool ?_,((Ext.refl w).drewN' p).drewN' _⟩;have:l≠m:=by
      rintro rfl;have:=HX.out;rw[HX'.out] at this;injection this with this;exact hx'.out this.symm
     exact(decide_eq_false this).symm
   ·obtain rfl:k=n:=by omega
    go_wp2;go_ret;refine⟨ret_bool ?_,(Ext.refl w).drewN' _⟩;have h1:=HE.out;rw[←HN.out,List.take_length] at h1;rw[HN.out,←HN'.out,List.take_length] at h1;exact(decide_eq_true h1).symm
 ·have hq:((n:Int)==(n':Int))=false:=by simp;omega
  have hne:l≠m:=by rintro rfl;exact hnn (HN.out.symm.trans HN'.out)
  rw[decide_eq_false hne];go_enter Tryz.func226,Tryz.ntmps226
  go_wp2;go_ret;exact⟨rfl,Ext.refl _⟩
theorem equalU_n {u v:Value}{l m:List Nat}{w:World}(hu:LNum w u l)(hv:LNum w v m):
 Calls Tryz.prog 207 #[u,v] w (GivesB w (decide (l=m))):=by
 obtain⟨A,n,c,rfl,hn,hc,hm,hs,hr⟩:=hu;obtain⟨A',n',c',rfl,hn',hc',hm',hs',hr'⟩:=hv;have hb:n≤9223372036854775807:=by unfold maxLen at hm;omega
 have HR:=hid hr;have HR':=hid hr';have HN:=hid hn;have HN':=hid hn';clear hr hn hs hm hr' hn' hs' hm' hc hc'
 by_cases hnn:n=n'
 ·subst hnn;go_enter Tryz.func207,Tryz.ntmps207
  go_wp2;go_loopw[13] (fun i wr=>∃k p:Nat,k≤n∧i=.int .i64 k∧wr=w.drewN p∧l.take k=m.take k) (fun i _=>n-(intOf i).toNat)
  case atStart=>exact⟨0,0,Nat.zero_le _,rfl,rfl,rfl⟩
  case round=>
   obtain⟨k,p,hk,rfl,rfl,he⟩:=hrel;have HE:=hid he;clear he
   by_cases hlt:k<n
   ·obtain⟨ad,x,rfl,_,HX,hcell⟩:=HR.out.get (k:=k) (by rw[←HN.out];exact hlt);obtain⟨ad',x',rfl,_,HX',hcell'⟩:=HR'.out.get (k:=k) (by rw[←HN'.out];exact hlt)
    by_cases hx:x=x'
    ·subst hx;go_wp2;go_quiet (fail)
     go_wp2;go_roundw
     case rel=>exact⟨k+1,p+nq,by omega,by go_num,rfl,by rw[List.take_add_one,List.take_add_one,HE.out,HX.out,HX'.out]⟩
     case measure=>simp[intOf];all_goals omega
    ·have hx':=hid hx;have hne:((x:Int) != (x':Int))=true:=by simpa using (by omega:¬(x:Int)=x')
     clear hx;go_wp2;go_quiet (fail)
     go_wp2;go_ret;refine⟨ret_bool ?_,((Ext.refl w).drewN' p).drewN' _⟩;have:l≠m:=by
      rintro rfl;have:=HX.out;rw[HX'.out] at this;injection this with this;exact hx'.out this.symm
     exact(decide_eq_false this).symm
   ·obtain rfl:k=n:=by omega
    go_wp2;go_ret;refine⟨ret_bool ?_,(Ext.refl w).drewN' _⟩;have h1:=HE.out;rw[HN.out,List.take_length] at h1;rw[←HN.out,HN'.out,List.take_length] at h1;exact(decide_eq_true h1).symm
 ·have hq:((n:Int)==(n':Int))=false:=by simp;omega
  have hne:l≠m:=by rintro rfl;exact hnn (HN.out.trans HN'.out.symm)
  rw[decide_eq_false hne];go_enter Tryz.func207,Tryz.ntmps207
  go_wp2;go_ret;exact⟨rfl,Ext.refl _⟩
theorem dec_eqI (a b:Int): (a==b)=decide (a=b):=by
 by_cases h:a=b<;>simp[h]
set_option maxHeartbeats 4000000 in
theorem sameHead_n {op op':Int}{g g':Bool}{N N' A A':Option Addr}{nn nc n c nn' nc' n' c':Nat}{nm nm':List UInt8}{so so':Int}{ls ls':List Nat}{w:World}(hn:LNum w (.slice N nn nc) ls)(hn':LNum w (.slice N' nn' nc') ls'):
 Calls Tryz.prog 169 #[kv op g N nn nc nm so A n c,kv op' g' N' nn' nc' nm' so' A' n' c'] w (GivesB w (decide (op=op')&&(decide (g=g'∧ls=ls')&&(decide (nm=nm')&&decide (so=so'))))):=by
 by_cases h1:op=op'
 case neg=>
  have hb:(op==op')=false:=by simpa using h1
  rw[decide_eq_false h1,Bool.false_and];clear h1 hn hn';go_enter Tryz.func169,Tryz.ntmps169
  go_wp2;go_ret;exact⟨rfl,(Ext.alloc w _).alloc' _⟩
 case pos=>
 subst h1;rw[decide_eq_true rfl,Bool.true_and]
 by_cases h2:g=g'
 case neg=>
  have hb:(g==g')=false:=by cases g<;>cases g'<;>simp at h2 ⊢
  rw[show decide (g=g'∧ls=ls')=false by simp[h2],Bool.false_and];clear h2 hn hn';go_enter Tryz.func169,Tryz.ntmps169
  cases g<;>cases g'<;>simp at hb<;>clear hb<;>(
   go_wp2;go_ret;exact⟨rfl,(Ext.alloc w _).alloc' _⟩)
 case pos=>
 subst h2;rw[show decide (g=g∧ls=ls')=decide (ls=ls') by simp];have HC:=hid (show ∀w',Ext w w'→Calls Tryz.prog 207 #[.slice N nn nc,.slice N' nn' nc'] w' (GivesB w' (decide (ls=ls'))) from fun w' e=>equalU_n (hn.up e) (hn'.up e));obtain⟨q,hq⟩:∃q,decide (ls=ls')=q:=⟨_,rfl⟩;rw[hq] at HC ⊢;clear hn hn' hq;have HB1:=hid (show Box ((w.alloc (.cells #[.int .i64 op,.bool g,.slice N nn nc,str nm,.int .i64 so,.slice A n c] 27)).alloc (.cells #[.int .i64 op,.bool g,.slice N' nn' nc',str nm',.int .i64 so',.slice A' n' c'] 27)) w.heap.size #[.int .i64 op,.bool g,.slice N nn nc,str nm,.int .i64 so,.slice A n c] 27 from(Box.new w _ _).alloc _);have HB2:=hid (show Box ((w.alloc (.cells #[.int .i64 op,.bool g,.slice N nn nc,str nm,.int .i64 so,.slice A n c] 27)).alloc (.cells #[.int .i64 op,.bool g,.slice N' nn' nc',str nm',.int .i64 so',.slice A' n' c'] 27)) (w.heap.size+1) #[.int .i64 op,.bool g,.slice N' nn' nc',str nm',.int .i64 so',.slice A' n' c'] 27 from Box.at_ (w:=w.alloc (.cells #[.int .i64 op,.bool g,.slice N nn nc,str nm,.int .i64 so,.slice A n c] 27)) _ _ (by simp));cases q
 ·rw[Bool.false_and]
  cases g<;>(
   go_enter Tryz.func169,Tryz.ntmps169
   go_wp2_with fail
   refine(HC.out _ (alloc_two w _ _)).mono ?_;rintro e w' ⟨rfl,hb⟩;go_wp2;go_ret;exact⟨rfl,(alloc_two w _ _).trans hb⟩)
 ·rw[Bool.true_and]
  by_cases h3:nm=nm'
  case neg=>
   rw[decide_eq_false h3,Bool.false_and]
   cases g<;>(
    go_enter Tryz.func169,Tryz.ntmps169
    go_wp2_with fail
    refine(HC.out _ (alloc_two w _ _)).mono ?_;rintro e w' ⟨rfl,hb⟩;obtain⟨⟨a0,a1,a2,a3,a4,a5⟩,-,-⟩:=boxF6 (HB1.out.up hb);obtain⟨⟨b0,b1,b2,b3,b4,b5⟩,-,-⟩:=boxF6 (HB2.out.up hb);have E:=hid hb;clear hb;go_wp2;go_ret;exact⟨rfl,(alloc_two w _ _).trans E.out⟩)
  case pos=>
  subst h3;rw[decide_eq_true rfl,Bool.true_and];obtain⟨q,hq⟩:∃q,decide (so=so')=q:=⟨_,rfl⟩;have hq2:(so==so')=q:=by rw[dec_eqI,hq]
  rw[hq];clear hq
  cases g<;>(
   go_enter Tryz.func169,Tryz.ntmps169
   go_wp2_with fail
   refine(HC.out _ (alloc_two w _ _)).mono ?_;rintro e w' ⟨rfl,hb⟩;obtain⟨⟨a0,a1,a2,a3,a4,a5⟩,-,-⟩:=boxF6 (HB1.out.up hb);obtain⟨⟨b0,b1,b2,b3,b4,b5⟩,-,-⟩:=boxF6 (HB2.out.up hb);have E:=hid hb;clear hb;go_wp2;go_ret;exact⟨rfl,(alloc_two w _ _).trans E.out⟩)
end Go.Proofs.YtoenjbkmiphhoaaGreatDoor.Q
