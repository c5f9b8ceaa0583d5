/-
  Layers 13 to 15, words: blocks that a state with lists of its own doesn't write into; lists of terms of one's own.
-/
import Derived.Test.YtoenjbkmiphhoaaGreatDoorS25
namespace Go.Proofs.YtoenjbkmiphhoaaGreatDoor.Q
set_option linter.unusedSimpArgs false
set_option linter.unusedVariables false
open Go.RowKit
abbrev qt (g:Nat)(vs:List Value)(k:Nat): Prop:=k≠g∧∀v∈vs,v.ownBlock≠some k
def Low (B g:Nat)(vs:List Value)(w:World): Prop:=(B≤g∧g<w.heap.size)∧∀v∈vs,∀k,v.ownBlock=some k→B≤k∧k<w.heap.size∧k≠g
def Turn (B g:Nat)(vs:List Value)(w:World)(vs':List Value)(w':World): Prop:=Below B w w'∧∀k,k<w.heap.size→qt g vs k→qt g vs' k∧w'.heap[k]?=w.heap[k]?
theorem Turn.refl (B g:Nat)(vs:List Value)(w:World): Turn B g vs w vs w:=⟨Below.refl _ _,fun _ _ h=>⟨h,rfl⟩⟩
theorem Turn.size {B g:Nat}{vs vs':List Value}{w w':World}(h:Turn B g vs w vs' w'): w.heap.size≤w'.heap.size:=h.1.size
theorem Turn.trans {B g:Nat}{vs vs1 vs2:List Value}{w w1 w2:World}(h:Turn B g vs w vs1 w1)(k:Turn B g vs1 w1 vs2 w2): Turn B g vs w vs2 w2:=
 ⟨Below.trans h.1 k.1,fun i hi hq=>by
  obtain⟨a1,a2⟩:=h.2 i hi hq
  obtain⟨b1,b2⟩:=k.2 i (Nat.lt_of_lt_of_le hi h.size) a1
  exact⟨b1,b2.trans a2⟩⟩
theorem Turn.ext {B g:Nat}{vs:List Value}{w w':World}(hB:B≤w.heap.size)(e:Ext w w'): Turn B g vs w vs w':=⟨Below.mono e hB,fun k hk hq=>⟨hq,e.block k hk⟩⟩
theorem Turn.base {g:Nat}{vs vs':List Value}{w0 w w':World}(h:Turn w0.heap.size g vs w vs' w')(e:Ext w0 w): Ext w0 w':=Below.trans (B:=w0.heap.size) e h.1
theorem Turn.box {B g k:Nat}{vs vs':List Value}{w w':World}{cs:Array Value}{T:TypeId}(h:Turn B g vs w vs' w')(hb:Box w k cs T)(hq:qt g vs k): Box w' k cs T∧qt g vs' k:=by
 obtain⟨a1,a2⟩:=h.2 k hb.lt hq
 exact⟨a2.trans hb,a1⟩
theorem Turn.sub {B g:Nat}{vs vs':List Value}{w w':World}(xs:List Value)(h:Turn B g vs w vs' w'): Sub (gp (qt g (vs++xs)) w) (gp (qt g (vs'++xs)) w'):=
 gpv_mono h.size fun k hk hq=>by
  obtain⟨a1,a2⟩:=h.2 k hk ⟨hq.1,fun v hv=>hq.2 v (List.mem_append_left _ hv)⟩
  refine⟨⟨a1.1,fun v hv=>?_⟩,a2⟩
  rcases List.mem_append.1 hv with hv|hv
  ·exact a1.2 v hv
  ·exact hq.2 v (List.mem_append_right _ hv)
theorem qt_mono {g:Nat}{vs us:List Value}{w:World}(h:∀v∈us,v∈vs∨v.ownBlock=none): Sub (gp (qt g vs) w) (gp (qt g us) w):=
 gpv_mono (Nat.le_refl _) fun k hk hq=>⟨⟨hq.1,fun v hv=>by
  rcases h v hv with h|h
  ·exact hq.2 v h
  ·rw[h];intro e;cases e⟩,rfl⟩
theorem Low.new {B g:Nat}{vs:List Value}{w:World}(h:Low B g vs w){k:Nat}(hk:w.heap.size≤k): qt g vs k:=
 ⟨fun e=>by have:=h.1.2;omega,fun v hv e=>by have:=(h.2 v hv k e).2.1;omega⟩
theorem Low.old {g:Nat}{vs:List Value}{w0 w:World}(h:Low w0.heap.size g vs w)(e:Ext w0 w): Sub w0 (gp (qt g vs) w):=
 e.gp_new fun k hk=>⟨fun he=>by have:=h.1.1;omega,fun v hv he=>by have:=(h.2 v hv k he).1;omega⟩
theorem Low.ext {B g:Nat}{vs:List Value}{w w':World}(h:Low B g vs w)(e:w.heap.size≤w'.heap.size): Low B g vs w':=
 ⟨⟨h.1.1,Nat.lt_of_lt_of_le h.1.2 e⟩,fun v hv k hk=>by obtain⟨a,b,c⟩:=h.2 v hv k hk;exact⟨a,Nat.lt_of_lt_of_le b e,c⟩⟩
theorem Low.box {B g k:Nat}{vs:List Value}{w w':World}{cs:Array Value}{T:TypeId}(h:Low B g vs w)(hb:Box w' k cs T)(hk:w.heap.size≤k): qt g vs k:=h.new hk
theorem Box.gq {p:Nat→Prop}[DecidablePred p]{w:World}{k:Nat}{cs:Array Value}{T:TypeId}(h:Box w k cs T)(hp:p k): Box (gp p w) k cs T:=by
 unfold Box at *
 unfold gp
 simp[h,hp]
theorem Turn.set {B g o:Nat}{vs:List Value}{w:World}{u:Value}(hB:B≤g): Turn B g vs w vs (w.setCell ⟨g,o,none⟩ u):=
 ⟨(Below.refl _ _).setCell hB _,fun k hk hq=>⟨hq,Below.heap_setCell _ _ _ _ hq.1⟩⟩
theorem Turn.list {B g:Nat}{la lb:List Value}{v v':Value}{w w':World}(hL:Low B g (la++v::lb) w)(hb:Below B w w')(hg:w.grownBy w' v.ownBlock)(hv:v'.ownBlock=v.ownBlock∨v'.ownBlock=some w.heap.size): Turn B g (la++v::lb) w (la++v'::lb) w':=
 ⟨hb,fun k hk hq=>by
  have hne:v.ownBlock≠some k:=hq.2 v (by simp)
  refine⟨⟨hq.1,fun u hu=>?_⟩,hg.block k hk (Ne.symm hne)⟩
  rcases List.mem_append.1 hu with hu|hu
  ·exact hq.2 u (List.mem_append_left _ hu)
  ·rcases List.mem_cons.1 hu with rfl|hu
   ·rcases hv with e|e
    ·rw[e];exact hne
    ·rw[e];intro e;injection e with e;omega
   ·exact hq.2 u (by simp[hu])⟩
theorem Low.list {B g:Nat}{la lb:List Value}{v v':Value}{w w':World}(hL:Low B g (la++v::lb) w)(hb:Below B w w')(hv:v'.ownBlock=v.ownBlock∨v'.ownBlock=some w.heap.size)(hlt:∀k,v'.ownBlock=some k→B≤k∧k<w'.heap.size): Low B g (la++v'::lb) w':=
 ⟨⟨hL.1.1,Nat.lt_of_lt_of_le hL.1.2 hb.size⟩,fun u hu k hk=>by
  rcases List.mem_append.1 hu with hu|hu
  ·obtain⟨a,b,c⟩:=hL.2 u (List.mem_append_left _ hu) k hk
   exact⟨a,Nat.lt_of_lt_of_le b hb.size,c⟩
  ·rcases List.mem_cons.1 hu with rfl|hu
   ·obtain⟨a,b⟩:=hlt k hk
    refine⟨a,b,?_⟩
    rcases hv with e|e
    ·rw[e] at hk;exact(hL.2 v (by simp) k hk).2.2
    ·rw[e] at hk;injection hk with hk;have:=hL.1.2;omega
   ·obtain⟨a,b,c⟩:=hL.2 u (by simp[hu]) k hk
    exact⟨a,Nat.lt_of_lt_of_le b hb.size,c⟩⟩
def bls (g:Nat)(vs:List Value): List Nat:=g::vs.flatMap fun v=>v.ownBlock.toList
theorem bls_not {g:Nat}{vs:List Value}{k:Nat}: k∉bls g vs↔qt g vs k:=by
 unfold bls qt
 simp only[List.mem_cons,List.mem_flatMap,not_or,not_exists,not_and,Option.mem_toList]
theorem Turn.kept {B g:Nat}{vs vs':List Value}{w w':World}(h:Turn B g vs w vs' w'): Kept (bls g vs) w w':=⟨Below.mono h.1 (Nat.zero_le _),fun k hk hx=>(h.2 k hk (bls_not.1 hx)).2⟩
def TC (V:World)(t:M.Tm)(us:List Value): Prop:=∃N nn nc A n c,us=[.int .i64 t.op,.bool t.g,.slice N nn nc,str t.name,.int .i64 t.sort,.slice A n c]∧LNum V (.slice N nn nc) t.ls∧Tms V t.kids (.slice A n c)
theorem tck:CKind TC 6 where
 len:=by rintro V x us ⟨N,nn,nc,A,n,c,rfl,-⟩;rfl
 one:=by
  rintro V x us ⟨N,nn,nc,A,n,c,rfl,-⟩ u hu
  simp at hu
  rcases hu with rfl|rfl|rfl|rfl|rfl|rfl<;>rfl
 sub:=by rintro V V' x us ⟨N,nn,nc,A,n,c,h1,h2,h3⟩ e;exact⟨N,nn,nc,A,n,c,h1,h2.sub e,h3.sub e⟩
theorem ttk:TKind 6 25 27:=⟨by decide,Tryz.underlying25,.agg #[.int .i64 0,.bool false,.slice none 0 0,.string ⟨#[]⟩,.int .i64 0,.slice none 0 0],88,by kernel_rfl,rfl,by decide⟩
theorem OwnL.terms {B:Nat}{V w:World}{v:Value}{l:List M.Tm}(h:OwnL TC 6 27 B V w v l){U:World}(e:Sub V U)(ew:w.heap.size≤U.heap.size)(hc:∀(a:Addr) (u:Value),(∃g,v.ownBlock=some g∧a.block=g)→w.cell? a=some u→U.cell? a=some u): Tms U l v:=by
 obtain⟨A,n,c,rfl,h2,h3,h4,h5⟩:=h.tell tck
 refine Tms.mk_ ⟨A,n,c,rfl,h2,h3,h4,fun hne=>?_⟩
 obtain⟨x,hx⟩:∃x,l[0]?=some x:=⟨_,List.getElem?_eq_getElem (by cases l with|nil=>exact absurd rfl hne|cons=>simp)⟩
 obtain⟨g,rfl,hb,hg,-⟩:=h5 0 x hx
 refine⟨_,rfl,Nat.lt_of_lt_of_le hg ew,fun k t hk=>?_⟩
 obtain⟨g',e',-,-,us,⟨N,nn,nc,A1,n1,c1,rfl,hn,hks⟩,hcell⟩:=h5 k t hk
 injection e' with e'
 injection e' with e'
 subst e'
 have hcc:∀(a:Addr) (u:Value),a.block=g→w.cell? a=some u→U.cell? a=some u:=fun a u ha hu=>hc a u ⟨g,rfl,ha⟩ hu
 obtain⟨op,tg,ls,nm,s,ks⟩:=t
 have c0:=hcc _ _ (by rw[addr_block,addr_block]) (hcell 0 _ rfl)
 rw[Addr.add_zero'] at c0
 exact tmAt_mk.2 ⟨N,nn,nc,_,⟨⟨c0,hcc _ _ (by rw[addr_block,addr_block]) (hcell 1 _ rfl),hcc _ _ (by rw[addr_block,addr_block]) (hcell 2 _ rfl)⟩,hcc _ _ (by rw[addr_block,addr_block]) (hcell 3 _ rfl),hcc _ _ (by rw[addr_block,addr_block]) (hcell 4 _ rfl),hcc _ _ (by rw[addr_block,addr_block]) (hcell 5 _ rfl)⟩,LNum.sub hn e,hks.sub e⟩
theorem IsTm.any {w V:World}{t:M.Tm}{v:Value}(h:IsTm w t v)(h1:t.ls=[])(h2:t.kids=[]): IsTm V t v:=by
 obtain⟨N,nn,nc,A,c,e,h3,h4⟩:=h
 refine⟨N,nn,nc,A,c,e,?_,?_⟩
 ·rw[h1] at h3 ⊢
  obtain⟨A',n',c',g1,g2,g3,g4,g5,g6⟩:=h3
  exact⟨A',n',c',g1,g2,g3,g4,g5,fun h=>absurd rfl h⟩
 ·rw[h2] at h4 ⊢
  obtain⟨A',n',c',g1,g2,g3,g4,g5⟩:=h4
  exact⟨A',n',c',g1,g2,g3,g4,fun h=>absurd rfl h⟩
theorem LC.split {α:Type}{C:World→α→List Value→Prop}{V:World}: ∀{l m:List α} {xs:List Value},LC C V (l++m) xs→∃ys zs,xs=ys++zs∧LC C V l ys∧LC C V m zs
 | [],m,xs,h=>⟨[],xs,rfl,rfl,h⟩
 | x::r,m,xs,⟨us,ys,h1,h2,h3⟩=>by
  obtain⟨ys',zs,e,h4,h5⟩:=LC.split (l:=r) h3
  exact⟨us++ys',zs,by rw[h1,e,List.append_assoc],⟨us,ys',rfl,h2,h4⟩,h5⟩
theorem own_last {B:Nat}{V w:World}{v:Value}{l:List M.Tm}{x y:M.Tm}{x0 x1 x2 x3 x4 x5:Value}(h:OwnL TC 6 27 B V w v (l++[x]))(hy:TC V y [x0,x1,x2,x3,x4,x5]):
 ∃b cap cur,v=.slice (some ⟨b,0,none⟩) (l.length+1) cap∧B≤b∧Box w b cur 27∧l.length*6+6≤cur.size∧OwnL TC 6 27 B V (put6A w b (l.length*6) x0 x1 x2 x3 x4 x5) v (l++[y]):=by
 obtain⟨xs,⟨hl,h3⟩,h2⟩:=h
 have hn:(l++[x]).length=l.length+1:=by simp
 rw[hn] at hl h3
 rcases h3 with⟨-,h0⟩|⟨b,cap,cur,rfl,hb,hc,hc1,hm,hsz,htk⟩
 ·omega
 obtain⟨ys,zs,e,h4,-⟩:=h2.split
 have hyl:=h4.len tck
 have hps:l.length*6+6≤cur.size:=by rw[hsz];have:(l.length+1)*6≤cap*6:=Nat.mul_le_mul_right _ hc1;omega
 refine⟨b,cap,cur,rfl,hb,hc,hps,ys++[x0,x1,x2,x3,x4,x5],⟨by simp[hyl];omega,.inr ⟨b,cap,_,by simp,hb,put6A_box hc,by simp;omega,hm,by rw[cur6_size];exact hsz,?_⟩⟩,LC.app h4 ⟨_,[],by simp,hy,rfl⟩⟩
 obtain⟨z0,z1,z2,z3,z4,z5⟩:=cur6_at (x0:=x0) (x1:=x1) (x2:=x2) (x3:=x3) (x4:=x4) (x5:=x5) hps
 apply List.ext_getElem?
 intro i
 rw[List.getElem?_take]
 have hn2:(l++[y]).length*6=l.length*6+6:=by simp;omega
 rw[hn2]
 by_cases hi:i<l.length*6+6
 ·rw[if_pos hi,Array.getElem?_toList]
  by_cases hi2:i<l.length*6
  ·rw[cur6_off (.inl hi2),List.getElem?_append_left (by omega)]
   have e1:(cur.toList.take ((l.length+1)*6))[i]?=cur.toList[i]?:=by rw[List.getElem?_take,if_pos (by omega)]
   rw[htk,e,List.getElem?_append_left (by omega)] at e1
   rw[e1,Array.getElem?_toList]
  ·rw[List.getElem?_append_right (by omega),hyl]
   obtain⟨j,hj⟩:∃j,i=l.length*6+j:=⟨i-l.length*6,by omega⟩
   subst hj
   have hj6:j<6:=by omega
   rw[Nat.add_sub_cancel_left]
   match j,hj6 with
   | 0,_=>exact z0
   | 1,_=>exact z1
   | 2,_=>exact z2
   | 3,_=>exact z3
   | 4,_=>exact z4
   | 5,_=>exact z5
 ·rw[if_neg hi,List.getElem?_eq_none (by simp[hyl];omega)]
end Go.Proofs.YtoenjbkmiphhoaaGreatDoor.Q
