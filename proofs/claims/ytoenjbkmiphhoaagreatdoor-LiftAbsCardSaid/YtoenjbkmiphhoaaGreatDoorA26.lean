/-
  Layer 12's words: rows of structs of the call's own, whatever the struct: values, rows, functions.
-/
import Derived.Test.YtoenjbkmiphhoaaGreatDoorA25
namespace Go.Proofs.YtoenjbkmiphhoaaGreatDoor.Q
set_option linter.unusedSimpArgs false
set_option linter.unusedVariables false
open Go.RowKit
section
variable {α:Type}
def LC (C:World→α→List Value→Prop)(V:World): List α→List Value→Prop
 | [],xs=>xs=[]
 | x::r,xs=>∃us ys,xs=us++ys∧C V x us∧LC C V r ys
structure CKind (C:World→α→List Value→Prop)(sz:Nat): Prop where
 len:∀{V:World} {x:α} {us:List Value},C V x us→us.length=sz
 one:∀{V:World} {x:α} {us:List Value},C V x us→∀u∈us,u.oneCell'=true
 sub:∀{V V':World} {x:α} {us:List Value},C V x us→Sub V V'→C V' x us
variable {C:World→α→List Value→Prop} {sz:Nat}
theorem LC.sub (K:CKind C sz){V V':World}(e:Sub V V'): ∀{l:List α} {xs:List Value},LC C V l xs→LC C V' l xs
 | [],_,h=>h
 | x::r,_,⟨us,ys,h1,h2,h3⟩=>⟨us,ys,h1,K.sub h2 e,LC.sub K e h3⟩
theorem LC.len (K:CKind C sz){V:World}: ∀{l:List α} {xs:List Value},LC C V l xs→xs.length=l.length*sz
 | [],_,h=>by rw[show _=[] from h];simp
 | x::r,_,⟨us,ys,h1,h2,h3⟩=>by
  have:=LC.len K h3;rw[h1,List.length_append,K.len h2,this,List.length_cons,Nat.add_mul,Nat.one_mul,Nat.add_comm]
theorem LC.app {V:World}: ∀{l m:List α} {xs ys:List Value},LC C V l xs→LC C V m ys→LC C V (l++m) (xs++ys)
 | [],_,_,_,h,h'=>by rw[show _=[] from h];exact h'
 | x::r,_,_,_,⟨us,zs,h1,h2,h3⟩,h'=>⟨us,_,by rw[h1,List.append_assoc],h2,LC.app h3 h'⟩
theorem LC.one (K:CKind C sz){V:World}: ∀{l:List α} {xs:List Value},LC C V l xs→∀u∈xs,u.oneCell'=true
 | [],_,h=>by rw[show _=[] from h];intro u hu;simp at hu
 | x::r,_,⟨us,ys,h1,h2,h3⟩=>by
  intro u hu;rw[h1,List.mem_append] at hu;rcases hu with hu|hu
  ·exact K.one h2 u hu
  ·exact LC.one K h3 u hu
theorem LC.get (K:CKind C sz){V:World}: ∀{l:List α} {xs:List Value},LC C V l xs→∀(k:Nat) (x:α),l[k]?=some x→∃us,C V x us∧∀(j:Nat) (u:Value),us[j]?=some u→xs[k*sz+j]?=some u
 | [],_,_,_,_,hk=>by simp at hk
 | x::r,_,⟨us,ys,h1,h2,h3⟩,0,y,hk=>by
  simp at hk;subst hk h1;refine⟨us,h2,fun j u hj=>?_⟩;rw[Nat.zero_mul,Nat.zero_add,List.getElem?_append_left (List.getElem?_eq_some_iff.1 hj).1];exact hj
 | x::r,_,⟨us,ys,h1,h2,h3⟩,k+1,y,hk=>by
  obtain⟨vs,g1,g2⟩:=LC.get K h3 k y (by simpa using hk);subst h1;refine⟨vs,g1,fun j u hj=>?_⟩;have hl:=K.len h2;have e:(k+1)*sz+j-us.length=k*sz+j:=by rw[hl,Nat.add_mul,Nat.one_mul];omega
  rw[List.getElem?_append_right (by rw[hl,Nat.add_mul,Nat.one_mul];omega),e];exact g2 j u hj
theorem LC.of (K:CKind C sz){W w:World}{ad:Addr}: ∀(l:List α) (j0:Nat),(∀(k:Nat) (x:α),l[k]?=some x→∃us,C W x us∧∀(j:Nat) (u:Value),us[j]?=some u→w.cell? (ad.add ((j0+k)*sz+j))=some u)→∃xs,LC C W l xs∧∀(i:Nat) (u:Value),xs[i]?=some u→w.cell? (ad.add (j0*sz+i))=some u
 | [],j0,_=>⟨[],rfl,fun i u h=>by simp at h⟩
 | x::r,j0,h=>by
  obtain⟨us,h1,h2⟩:=h 0 x rfl;obtain⟨ys,h3,h4⟩:=LC.of K (ad:=ad) r (j0+1) (fun k y hk=>by
   obtain⟨vs,g1,g2⟩:=h (k+1) y (by simpa using hk);exact⟨vs,g1,fun j u hj=>by have:=g2 j u hj;rwa [show j0+(k+1)=j0+1+k by omega] at this⟩)
  refine⟨us++ys,⟨us,ys,rfl,h1,h3⟩,fun i u hi=>?_⟩;rcases Nat.lt_or_ge i us.length with hlt|hge
  ·rw[List.getElem?_append_left hlt] at hi;have:=h2 i u hi
   rwa [Nat.add_zero] at this
  ·rw[List.getElem?_append_right hge] at hi;have:=h4 _ u hi;have hl:=K.len h1
   rwa [show (j0+1)*sz+(i-us.length)=j0*sz+i by rw[Nat.add_mul,Nat.one_mul];omega] at this
def OwnL (C:World→α→List Value→Prop)(sz:Nat)(T:TypeId)(B:Nat)(V w:World)(v:Value)(l:List α): Prop:=∃xs,w.ownsRow B T sz v l.length xs∧LC C V l xs
variable {T tS:TypeId}
theorem OwnL.nil (T:TypeId)(B:Nat)(V w:World): OwnL C sz T B V w (.slice none 0 0) []:=⟨[],World.ownsRow_nil w _ _ sz,rfl⟩
theorem OwnL.frame {B:Nat}{V w w':World}{v:Value}{l:List α}(h:OwnL C sz T B V w v l)(hb:∀b,B≤b→b<w.heap.size→w'.heap[b]?=w.heap[b]?): OwnL C sz T B V w' v l:=by
 obtain⟨xs,h1,h2⟩:=h;exact⟨xs,kframe h1 hb,h2⟩
theorem OwnL.up {B:Nat}{V w w':World}{v:Value}{l:List α}(h:OwnL C sz T B V w v l)(e:Ext w w'): OwnL C sz T B V w' v l:=h.frame fun b _ hb=>e.block b hb
theorem OwnL.world (K:CKind C sz){B:Nat}{V V' w:World}{v:Value}{l:List α}(h:OwnL C sz T B V w v l)(e:Sub V V'): OwnL C sz T B V' w v l:=by
 obtain⟨xs,h1,h2⟩:=h;exact⟨xs,h1,h2.sub K e⟩
theorem OwnL.shape {B:Nat}{V w:World}{v:Value}{l:List α}(h:OwnL C sz T B V w v l): ∃A c,v=.slice A l.length c∧l.length≤c∧c≤maxLen:=by
 obtain⟨xs,h1,_⟩:=h;exact kshape h1
theorem OwnL.lt {B:Nat}{V w:World}{v:Value}{l:List α}(h:OwnL C sz T B V w v l): ∀k,v.ownBlock=some k→B≤k∧k<w.heap.size:=by
 obtain⟨xs,h1,_⟩:=h;exact World.ownsRow.lt h1
theorem OwnL.tell (K:CKind C sz){B:Nat}{V w:World}{v:Value}{l:List α}(h:OwnL C sz T B V w v l):
 ∃A n c,v=.slice A n c∧n=l.length∧n≤c∧c≤maxLen∧∀(k:Nat) (x:α),l[k]?=some x→∃g,A=some ⟨g,0,none⟩∧B≤g∧g<w.heap.size∧∃us,C V x us∧∀(j:Nat) (u:Value),us[j]?=some u→w.cell? (((⟨g,0,none⟩:Addr).add (k*sz)).add j)=some u:=by
 obtain⟨xs,h1,h2⟩:=h;have hh:=h1;obtain⟨hl,h3⟩:=h1;rcases h3 with⟨rfl,h0⟩|⟨b,cap,cur,rfl,hb,hc,hc1,hm,_,_⟩
 ·obtain rfl:l=[]:=List.eq_nil_of_length_eq_zero h0;exact⟨none,0,0,rfl,rfl,Nat.le_refl _,Nat.zero_le _,fun k x hx=>by simp at hx⟩
 ·refine⟨_,_,_,rfl,rfl,hc1,hm,fun k x hk=>⟨b,rfl,hb,(Array.getElem?_eq_some_iff.1 hc).1,?_⟩⟩;obtain⟨us,g1,g2⟩:=h2.get K k x hk;exact⟨us,g1,fun j u hj=>by rw[Addr.add_add];exact World.ownsRow.cells hh (g:=b) rfl _ _ (g2 j u hj)⟩
def LSrc (C:World→α→List Value→Prop)(V w:World)(l:List α)(A:Option Addr)(n:Nat): Prop:=n=l.length∧∃xs,LC C V l xs∧(l≠[]→∃ad,A=some ad∧∀(i:Nat) (u:Value),xs[i]?=some u→w.cell? (ad.add i)=some u)
theorem lsrc_one {V w:World}{x:α}{us:List Value}{k:Nat}{T':TypeId}(hx:C V x us)(h:Box w k us.toArray T'): LSrc C V w [x] (some ⟨k,0,none⟩) 1:=by
 refine⟨rfl,us,⟨us,[],by simp,hx,rfl⟩,fun _=>⟨_,rfl,fun i u hu=>?_⟩⟩;rw[Addr.add_lit,Nat.zero_add];exact h.cell (by simpa using hu)
structure TKind (sz:Nat)(tS T:TypeId): Prop where
 pos:0<sz
 ht:Tryz.prog.underlying tS=some (.slice T)
 hi:∃z b,(Tryz.prog.info? T).map (fun i=>(i.zero,i.size,i.bytes))=some (some z,sz,b)∧z.cells.size=sz∧b≤200
theorem vappL_run (K:CKind C sz)(KT:TKind sz tS T){B:Nat}{V w:World}{v:Value}{l m:List α}{A:Option Addr}{n c:Nat}(h:OwnL C sz T B V w v l)(hx:LSrc C V w m A n)(hlen:l.length+m.length≤1000000)(hbase:B≤w.heap.size)(ty:TypeId):
 ∃v' w',(Builtin.append_ #[tS,tS] ty #[v,.slice A n c]).run Tryz.prog w=.ok v' w'∧OwnL C sz T B V w' v' (l++m)∧Below B w w'∧w.grownBy w' v.ownBlock∧(v'.ownBlock=v.ownBlock∨v'.ownBlock=some w.heap.size):=by
 obtain⟨hpos,ht,z,b,hi',hzc,hb⟩:=KT;obtain⟨i0,hi,hz0,hz1,hz2⟩:=info_parts hi';obtain⟨xs,ho,hs⟩:=h;obtain⟨hn,ys,hy,hc⟩:=hx
 by_cases hm:m=[]
 ·subst hm;obtain rfl:n=0:=hn;refine⟨v,w,?_,⟨xs,by rw[List.append_nil];exact ho,by rw[List.append_nil];exact hs⟩,Below.refl _ _,World.grownBy.refl w _,.inl rfl⟩;rcases ho.2 with⟨rfl,_⟩|⟨g,cap,cur,rfl,_,_,hnc,_⟩
  ·cases A<;>simp[Builtin.append_,run_underlying ht,sizeOf,typeInfo,hi,Builtin.lenOf,Builtin.firstCells,loadCells,loadCellsFrom]
  ·cases A<;>simp[Builtin.append_,run_underlying ht,sizeOf,typeInfo,hi,Builtin.lenOf,Builtin.firstCells,hnc,storeCells,loadCells,loadCellsFrom]
 obtain⟨ad,rfl,hcell⟩:=hc hm;subst hn;obtain⟨v',w',hrun,ho',hg,_,hv'⟩:=run_append_own_at (P:=Tryz.prog) w B tS ty T i0 z sz b ht hi hz0 hz1 hz2 hzc hpos v l.length xs ho ad m.length c ys (hy.len K) hcell (hy.one K) (by unfold maxLen;omega) (by
  have:(l.length+m.length)*b≤1000000*200:=Nat.mul_le_mul hlen hb;omega) hbase
 exact⟨v',w',hrun,⟨xs++ys,by rw[List.length_append];exact ho',hs.app hy⟩,(Below.refl _ _).grown hg hbase fun k hk=>(World.ownsRow.lt ho k hk).1,hg,hv'⟩
def OwnG (C:World→α→List Value→Prop)(sz:Nat)(T:TypeId)(B:Nat)(w:World)(v:Value)(l:List α): Prop:=OwnL C sz T B (gp (beside B v) w) w v l
theorem OwnG.nil (T:TypeId)(B:Nat)(w:World): OwnG C sz T B w (.slice none 0 0) []:=OwnL.nil _ _ _ _
theorem gp_extV {p:Nat→Prop}[DecidablePred p]{w w':World}(e:Ext w w'): Sub (gp p w) (gp p w'):=gpv_mono e.size fun k hk h=>⟨h,e.block k hk⟩
theorem OwnG.up (K:CKind C sz){B:Nat}{w w':World}{v:Value}{l:List α}(h:OwnG C sz T B w v l)(e:Ext w w'): OwnG C sz T B w' v l:=(OwnL.up h e).world K (gp_extV e)
theorem vappG_run (K:CKind C sz)(KT:TKind sz tS T){B:Nat}{w:World}{v:Value}{l m:List α}{A:Option Addr}{n c:Nat}(h:OwnG C sz T B w v l)(hx:LSrc C (gp (beside B v) w) w m A n)(hlen:l.length+m.length≤1000000)(hbase:B≤w.heap.size)(ty:TypeId):
 ∃v' w',(Builtin.append_ #[tS,tS] ty #[v,.slice A n c]).run Tryz.prog w=.ok v' w'∧OwnG C sz T B w' v' (l++m)∧Below B w w'∧Kept v.ownBlock.toList w w':=by
 obtain⟨v',w',hrun,ho',hbel,hg,hv'⟩:=vappL_run K KT h hx hlen hbase ty;refine⟨v',w',hrun,ho'.world K (gpv_mono hbel.size fun k hk hq=>⟨⟨hq.1,fun e=>?_⟩,hg.block k hk (Ne.symm hq.2)⟩),hbel,kgrown hg⟩;rcases hv' with e'|e'
 ·rw[e'] at e;exact hq.2 e
 ·rw[e'] at e;injection e with e;omega
theorem beside_new {B S:Nat}{w0 w:World}{v:Value}{l:List α}{V:World}(h:OwnL C sz T B V w0 v l)(hB:B≤S)(hS:w0.heap.size≤S): Sub (gp (fun b=>S≤b) w) (gp (beside B v) w):=
 gpv_mono (Nat.le_refl _) fun k hk hs=>⟨⟨Nat.le_trans hB hs,fun e=>by have:=(h.lt k e).2;have:S≤k:=hs;omega⟩,rfl⟩
end
def VC (V:World)(x:M.Vl)(us:List Value): Prop:=∃N nn nc,us=[.int .i64 x.1,.bool x.2.1,.slice N nn nc]∧LNum V (.slice N nn nc) x.2.2
def RC (V:World)(r:List M.Vl×M.Vl)(us:List Value): Prop:=∃A n c N nn nc,us=[.slice A n c,.int .i64 r.2.1,.bool r.2.2.1,.slice N nn nc]∧VList V (.slice A n c) r.1∧LNum V (.slice N nn nc) r.2.2.2
def FC (V:World)(f:M.Fn)(us:List Value): Prop:=∃A n c B m d N nn nc,us=[str f.sg.name,.slice A n c,.int .i64 f.sg.ret,.slice B m d,.int .i64 f.els.1,.bool f.els.2.1,.slice N nn nc]∧Ints V f.sg.args (.slice A n c)∧RwList V f.rows (.slice B m d)∧LNum V (.slice N nn nc) f.els.2.2
theorem vck:CKind VC 3 where
 len:=by rintro V x us ⟨N,nn,nc,rfl,-⟩;rfl
 one:=by
  rintro V x us ⟨N,nn,nc,rfl,-⟩ u hu
  simp at hu
  rcases hu with rfl|rfl|rfl<;>rfl
 sub:=by rintro V V' x us ⟨N,nn,nc,h1,h2⟩ e;exact⟨N,nn,nc,h1,h2.sub e⟩
theorem rck:CKind RC 4 where
 len:=by rintro V x us ⟨A,n,c,N,nn,nc,rfl,-⟩;rfl
 one:=by
  rintro V x us ⟨A,n,c,N,nn,nc,rfl,-⟩ u hu
  simp at hu
  rcases hu with rfl|rfl|rfl|rfl<;>rfl
 sub:=by rintro V V' x us ⟨A,n,c,N,nn,nc,h1,h2,h3⟩ e;exact⟨A,n,c,N,nn,nc,h1,h2.sub e,h3.sub e⟩
theorem fck:CKind FC 7 where
 len:=by rintro V x us ⟨A,n,c,B,m,d,N,nn,nc,rfl,-⟩;rfl
 one:=by
  rintro V x us ⟨A,n,c,B,m,d,N,nn,nc,rfl,-⟩ u hu
  simp at hu
  rcases hu with rfl|rfl|rfl|rfl|rfl|rfl|rfl<;>rfl
 sub:=by rintro V V' x us ⟨A,n,c,B,m,d,N,nn,nc,h1,h2,h3,h4⟩ e;exact⟨A,n,c,B,m,d,N,nn,nc,h1,h2.sub e,h3.sub e,h4.sub e⟩
theorem vtk:TKind 3 67 45:=⟨by decide,Tryz.underlying67,.agg #[.int .i64 0,.bool false,.slice none 0 0],40,by kernel_rfl,rfl,by decide⟩
theorem rtk:TKind 4 63 69:=⟨by decide,Tryz.underlying63,.agg #[.slice none 0 0,.int .i64 0,.bool false,.slice none 0 0],64,by kernel_rfl,rfl,by decide⟩
theorem ftk:TKind 7 28 65:=⟨by decide,Tryz.underlying28,.agg #[.string ⟨#[]⟩,.slice none 0 0,.int .i64 0,.slice none 0 0,.int .i64 0,.bool false,.slice none 0 0],112,by kernel_rfl,rfl,by decide⟩
theorem stk:TKind 7 101 65:=⟨by decide,Tryz.underlying101,.agg #[.string ⟨#[]⟩,.slice none 0 0,.int .i64 0,.slice none 0 0,.int .i64 0,.bool false,.slice none 0 0],112,by kernel_rfl,rfl,by decide⟩
theorem OwnL.values {B:Nat}{V w:World}{v:Value}{l:List M.Vl}(h:OwnL VC 3 45 B V w v l){U:World}(e:Sub V U)(ew:w.heap.size≤U.heap.size)(hc:∀(a:Addr) (u:Value),B≤a.block→w.cell? a=some u→U.cell? a=some u): VList U v l:=by
 obtain⟨A,n,c,rfl,h2,h3,h4,h5⟩:=h.tell vck;refine⟨A,n,c,rfl,h2,h3,h4,fun k x hx=>?_⟩;obtain⟨g,rfl,hb,hg,us,⟨N,nn,nc,rfl,hn⟩,hcell⟩:=h5 k x hx;refine⟨_,rfl,Nat.lt_of_lt_of_le hg ew,N,nn,nc,?_,?_,?_,LNum.sub hn e⟩
 ·have:=hc _ _ (by rw[addr_block,addr_block];exact hb) (hcell 0 _ rfl)
  rwa [Addr.add_zero'] at this
 ·exact hc _ _ (by rw[addr_block,addr_block];exact hb) (hcell 1 _ rfl)
 ·exact hc _ _ (by rw[addr_block,addr_block];exact hb) (hcell 2 _ rfl)
theorem OwnL.rows {B:Nat}{V w:World}{v:Value}{l:List (List M.Vl×M.Vl)}(h:OwnL RC 4 69 B V w v l){U:World}(e:Sub V U)(ew:w.heap.size≤U.heap.size)(hc:∀(a:Addr) (u:Value),B≤a.block→w.cell? a=some u→U.cell? a=some u): RwList U l v:=by
 obtain⟨A,n,c,rfl,h2,h3,h4,h5⟩:=h.tell rck;refine⟨A,n,c,rfl,h2,h3,h4,fun k x hx=>?_⟩;obtain⟨g,rfl,hb,hg,us,⟨A1,n1,c1,N,nn,nc,rfl,h1,hn⟩,hcell⟩:=h5 k x hx;refine⟨_,rfl,Nat.lt_of_lt_of_le hg ew,A1,n1,c1,N,nn,nc,⟨?_,?_,?_,?_⟩,h1.sub e,LNum.sub hn e⟩
 ·have:=hc _ _ (by rw[addr_block,addr_block];exact hb) (hcell 0 _ rfl)
  rwa [Addr.add_zero'] at this
 ·exact hc _ _ (by rw[addr_block,addr_block];exact hb) (hcell 1 _ rfl)
 ·exact hc _ _ (by rw[addr_block,addr_block];exact hb) (hcell 2 _ rfl)
 ·exact hc _ _ (by rw[addr_block,addr_block];exact hb) (hcell 3 _ rfl)
theorem OwnL.funs {B:Nat}{V w:World}{v:Value}{l:List M.Fn}(h:OwnL FC 7 65 B V w v l){U:World}(e:Sub V U)(ew:w.heap.size≤U.heap.size)(hc:∀(a:Addr) (u:Value),B≤a.block→w.cell? a=some u→U.cell? a=some u): FnList U l v:=by
 obtain⟨A,n,c,rfl,h2,h3,h4,h5⟩:=h.tell fck;refine⟨A,n,c,rfl,h2,h3,h4,fun k x hx=>?_⟩;obtain⟨g,rfl,hb,hg,us,⟨A1,n1,c1,B1,m1,d1,N,nn,nc,rfl,h1,hr,hn⟩,hcell⟩:=h5 k x hx;refine⟨_,rfl,Nat.lt_of_lt_of_le hg ew,A1,n1,c1,B1,m1,d1,N,nn,nc,⟨⟨?_,?_,?_⟩,?_,?_,?_,?_⟩,h1.sub e,hr.sub e,LNum.sub hn e⟩
 ·have:=hc _ _ (by rw[addr_block,addr_block];exact hb) (hcell 0 _ rfl)
  rwa [Addr.add_zero'] at this
 ·exact hc _ _ (by rw[addr_block,addr_block];exact hb) (hcell 1 _ rfl)
 ·exact hc _ _ (by rw[addr_block,addr_block];exact hb) (hcell 2 _ rfl)
 ·exact hc _ _ (by rw[addr_block,addr_block];exact hb) (hcell 3 _ rfl)
 ·exact hc _ _ (by rw[addr_block,addr_block];exact hb) (hcell 4 _ rfl)
 ·exact hc _ _ (by rw[addr_block,addr_block];exact hb) (hcell 5 _ rfl)
 ·exact hc _ _ (by rw[addr_block,addr_block];exact hb) (hcell 6 _ rfl)
theorem FnList.src {V w:World}{l:List M.Fn}{A:Option Addr}{n c:Nat}(h:FnList V l (.slice A n c))(e:Sub V w): LSrc FC V w l A n:=by
 obtain⟨A',n',c',e',h2,h3,h4,h5⟩:=h;injection e' with e1 e2 e3;subst e1 e2 e3;refine⟨h2,?_⟩
 by_cases hne:l=[]
 ·subst hne;exact⟨[],rfl,fun h=>absurd rfl h⟩
 obtain⟨ad,ha⟩:∃ad,A=some ad:=by
  obtain⟨x,hx⟩:∃x,l[0]?=some x:=⟨_,List.getElem?_eq_getElem (by cases l with|nil=>exact absurd rfl hne|cons=>simp)⟩;obtain⟨ad,ha,_⟩:=h5 0 x hx;exact⟨ad,ha⟩
 obtain⟨xs,hx,hcell⟩:=LC.of fck (W:=V) (w:=V) (ad:=ad) l 0 (fun k f hk=>by
  obtain⟨ad',ha',_,A1,n1,c1,B,m,d,N,nn,nc,⟨⟨g0,g1,g2⟩,g3,g4,g5,g6⟩,g7,g8,g9⟩:=h5 k f hk;rw[ha] at ha';injection ha' with ha';subst ha';refine⟨_,⟨A1,n1,c1,B,m,d,N,nn,nc,rfl,g7,g8,g9⟩,fun j u hj=>?_⟩;rw[Nat.zero_add];rw[Addr.add_add] at g1 g2 g3 g4 g5 g6
  match j,hj with
  | 0,hj=>simp at hj;subst hj;exact g0
  | 1,hj=>simp at hj;subst hj;exact g1
  | 2,hj=>simp at hj;subst hj;exact g2
  | 3,hj=>simp at hj;subst hj;exact g3
  | 4,hj=>simp at hj;subst hj;exact g4
  | 5,hj=>simp at hj;subst hj;exact g5
  | 6,hj=>simp at hj;subst hj;exact g6
  | j+7,hj=>simp at hj)
 exact⟨xs,hx,fun _=>⟨ad,ha,fun i u hi=>e.2 _ _ (by have:=hcell i u hi;rwa [Nat.zero_mul,Nat.zero_add] at this)⟩⟩
theorem wpList_appG {α:Type}{C:World→α→List Value→Prop}{sz:Nat}{T tS:TypeId}(K:CKind C sz)(KT:TKind sz tS T){B:Nat}{w:World}{ops:Array Oper}{rest:List Oper}{o:Oper}{a:Act}{Q:Exit→Act→World→Prop}(hgd:o.guard=none)(s x:Operand)
 (ho:o.op=.call { callee:=.builtin .append,args:=#[s,x],argTypes:=#[tS,tS] }) {v:Value} {l m:List α} {A:Option Addr} {n c:Nat}
 (hs:a.eval s=v) (hx:a.eval x=.slice A n c) (h:OwnG C sz T B w v l) (hsrc:LSrc C (gp (beside B v) w) w m A n) (hlen:l.length+m.length≤1000000) (hbase:B≤w.heap.size)
 (hq:∀v' w',OwnG C sz T B w' v' (l++m)→Below B w w'→wpList Tryz.prog ops Q rest (a.put o.dst v') w'):wpList Tryz.prog ops Q (o::rest) a w:=by
 obtain⟨v',w',hr,h2,h3,-⟩:=vappG_run K KT (c:=c) h hsrc hlen hbase o.type;refine wpList_plain hgd fun K hK=>?_;unfold Oper.wp execOp;simp only[ho,resolve,invoke,builtin,Sem.run_bind,Sem.run_pure,Result.andThen_ok,List.map_toArray,List.map_cons,List.map_nil,hs,hx,hr];exact hK _ _ (hq v' w' h2 h3)
theorem OwnG.shape {α:Type}{C:World→α→List Value→Prop}{sz:Nat}{T:TypeId}{B:Nat}{w:World}{v:Value}{l:List α}(h:OwnG C sz T B w v l): ∃A c,v=.slice A l.length c∧l.length≤c∧c≤maxLen:=OwnL.shape h
def GivesG {α:Type}(C:World→α→List Value→Prop)(sz:Nat)(T:TypeId)(w:World)(l:List α)(e:Ending)(w':World): Prop:=∃v,e=.returned v∧OwnG C sz T w.heap.size w' v l∧Ext w w'
theorem gp_beside {B:Nat}{v:Value}{w:World}: Sub (gp (beside B v) w) (gp (fun b=>B≤b) w):=gpv_mono (Nat.le_refl _) fun k _ h=>⟨h.1,rfl⟩
theorem OwnG.values {B:Nat}{w:World}{v:Value}{l:List M.Vl}(h:OwnG VC 3 45 B w v l): VList (gp (fun b=>B≤b) w) v l:=
 OwnL.values h gp_beside (by rw[gp_size];exact Nat.le_refl _) fun a u hb hc=>gp_cell.2 ⟨hb,hc⟩
theorem OwnG.rows {B:Nat}{w:World}{v:Value}{l:List (List M.Vl×M.Vl)}(h:OwnG RC 4 69 B w v l): RwList (gp (fun b=>B≤b) w) l v:=
 OwnL.rows h gp_beside (by rw[gp_size];exact Nat.le_refl _) fun a u hb hc=>gp_cell.2 ⟨hb,hc⟩
theorem OwnG.funs {B:Nat}{w:World}{v:Value}{l:List M.Fn}(h:OwnG FC 7 65 B w v l): FnList (gp (fun b=>B≤b) w) l v:=
 OwnL.funs h gp_beside (by rw[gp_size];exact Nat.le_refl _) fun a u hb hc=>gp_cell.2 ⟨hb,hc⟩
theorem gp_low {S S':Nat}{w w':World}(hS:S≤S')(e:Ext w w'): Sub (gp (fun b=>S'≤b) w) (gp (fun b=>S≤b) w'):=gpv_mono e.size fun k hk h=>⟨Nat.le_trans hS h,e.block k hk⟩
set_option maxHeartbeats 8000000 in
theorem owned_v {l:List M.Vl}{v:Value}{w:World}(h:VList w v l)(hlen:l.length≤100000)(hwd:∀x∈l,x.2.2.length≤1000000): Calls Tryz.prog 155 #[v] w (GivesG VC 3 45 w l):=by
 obtain⟨A,n,c,rfl⟩:=h.shape;obtain⟨hn,hl2,hl3⟩:=h.count;rw[←hn] at hlen;have HK:=hid h;have HN:=hid hn.symm;have HW:=hid hwd;clear h hn hwd;go_enter Tryz.func155,Tryz.ntmps155
 go_wp2_with fail
 go_loopw[3,8] (fun x i wr=>∃k:Nat,k≤n∧i=.int .i64 k∧Hid (OwnG VC 3 45 w.heap.size wr x (l.take k)∧Ext w wr)) (fun _ i _=>n-(intOf i).toNat)
 case atStart=>exact⟨0,Nat.zero_le _,rfl,OwnG.nil _ _ _,Ext.refl _⟩
 case round=>
  obtain⟨k,hk,rfl,hR⟩:=hrel;have E:=hid hR.out.2;obtain⟨L,hL⟩:∃L,l.take k=L:=⟨_,rfl⟩;have hO:=hR.out.1;rw[hL] at hO;have HL:=hid hL;obtain⟨ln,hln⟩:∃n,L.length=n:=⟨_,rfl⟩;have HLK:=hid (show ln=k by rw[←hln,←hL,List.length_take,HN.out];omega);obtain⟨IA,ic,rfl,-,-⟩:=hO.shape;rw[hln] at hO ⊢;have HLN:=hid hln;have HO:=hid hO;clear hR hL hO hln;rcases Nat.lt_or_ge k n with hlt|hge
  ·have hlt':(k:Int)<(n:Int):=by omega
   obtain⟨x,hx⟩:∃x,l[k]?=some x:=⟨_,List.getElem?_eq_getElem (by rw[HN.out];exact hlt)⟩;obtain⟨ad,N,nn,nc,rfl,⟨c0,c1,c2⟩,hv⟩:=(HK.out.up E.out).at_ hx;have HU:=hid hx;have HC:=hid (show ∀w',Ext wr w'→Calls Tryz.prog 119 #[vv x.1 x.2.1 N nn nc] w' (GivesVN w' x) from fun w' e=>own_v (hv.up e) (Nat.le_trans (HW.out x (List.mem_of_getElem? hx)) (by decide)));have EB:=hid (Ext.alloc wr (.cells #[.int .i64 x.1,.bool x.2.1,.slice N nn nc] 45));obtain⟨⟨b0,b1,b2⟩,-,-⟩:=box3v (Box.new wr #[.int .i64 x.1,.bool x.2.1,.slice N nn nc] 45);clear hx hv;go_wp2_with fail
   refine(HC.out _ EB.out).mono ?_;rintro e w3 ⟨v3,rfl,⟨N3,n3,c3,rfl,hn3⟩,hb⟩;have E3:=hid (EB.out.trans hb);have HN3:=hid (show LNum (gp (fun b=>wr.heap.size≤b) w3) (.slice N3 n3 c3) x.2.2 from LNum.sub hn3 (gpv_mono (Nat.le_refl _) fun q _ h=>⟨by have:(wr.alloc (.cells #[.int .i64 x.1,.bool x.2.1,.slice N nn nc] 45)).heap.size≤q:=h;simp at this;omega,rfl⟩));clear hb hn3 c0 c1 c2 b0 b1 b2 HC;go_wp2_with (at_builtin;refine wpList_appG vck vtk rfl (.tmp 12) (.tmp 15) rfl (B:=w.heap.size) (l:=L) (m:=[x]) (A:=some ⟨w3.heap.size,0,none⟩) (n:=1) (c:=1) rfl rfl ?own ?src ?len ?base ?_)
   case own=>exact OwnG.up vck (HO.out.up vck E3.out) (Ext.alloc w3 _)
   case src=>exact lsrc_one (us:=[.int .i64 x.1,.bool x.2.1,.slice N3 n3 c3]) ⟨N3,n3,c3,rfl,LNum.sub HN3.out ((gp_extV (Ext.alloc w3 _)).trans (beside_new HO.out E.out.size (Nat.le_refl _)))⟩ (Box.new w3 _ _)
   case len=>rw[HLN.out];have:=HLK.out;simp;omega
   case base=>have:=E.out.size;have:=E3.out.size;simp;omega
   intro v' w5 hO5 hB5;have HO5:=hid hO5;have E5:=hid (show Ext w w5 from Below.trans (B:=w.heap.size) ((E.out.trans E3.out).trans (Ext.alloc w3 _)) hB5);clear hO5 hB5;go_wp2_with fail
   go_roundw
   case rel=>exact⟨k+1,by omega,by simp,by rw[List.take_add_one,HU.out,HL.out];exact HO5.out,E5.out⟩
   case measure=>simp[intOf];omega
  ·obtain rfl:k=n:=by omega
   go_wp2;go_ret;refine⟨_,rfl,?_,E.out⟩;have h1:=HL.out;rw[←HN.out,List.take_length] at h1;rw[h1];exact HO.out
theorem info_intV:(Tryz.prog.info? 3).map (fun i=>(i.zero,i.size,i.bytes))=some (some (.int .i64 0),1,8):=by kernel_rfl
theorem appI_nil {w:World}{A:Option Addr}{n c:Nat}{l:List Int}(h:Ints w l (.slice A n c))(hlen:l.length≤1000000)(ty:TypeId):
 ∃v' w',(Builtin.append_ #[60,60] ty #[.slice none 0 0,.slice A n c]).run Tryz.prog w=.ok v' w'∧OwnI w.heap.size w' v' l∧Ext w w':=by
 obtain⟨i0,hi,hz0,hz1,hz2⟩:=info_parts info_intV;obtain⟨A',n',c',e,h2,h3,h4,h6⟩:=h;injection e with e1 e2 e3;subst e1 e2 e3
 by_cases hne:l=[]
 ·subst hne;obtain rfl:n=0:=h2;refine⟨.slice none 0 0,w,?_,OwnI.nil _ _,Ext.refl _⟩;cases A<;>simp[Builtin.append_,run_underlying Tryz.underlying60,sizeOf,typeInfo,hi,Builtin.lenOf,Builtin.firstCells,loadCells,loadCellsFrom]
 ·obtain⟨ad,rfl,hb,hc⟩:=h6 hne;subst h2
  obtain⟨v',w',hrun,ho',hg,_,_⟩:=run_append_own_at (P:=Tryz.prog) w w.heap.size 60 ty 3 i0 _ 1 8 Tryz.underlying60 hi hz0 hz1 hz2 rfl (by decide) (.slice none 0 0) 0 [] (World.ownsRow_nil w _ _ 1) ad l.length c (l.map fun x:Int=>Value.int .i64 x) (by simp)
   (by
    intro j u hj;rw[List.getElem?_map] at hj;obtain⟨x,hx,rfl⟩:=Option.map_eq_some_iff.1 hj;exact hc j x hx)
   (by
    intro u hu;obtain⟨x,_,rfl⟩:=List.mem_map.1 hu;rfl) (by unfold maxLen;omega) (by omega) (Nat.le_refl _)
  refine⟨v',w',hrun,?_,(Below.refl _ _).grown hg (Nat.le_refl _) fun k hk=>by simp[Value.ownBlock] at hk⟩;rw[Nat.zero_add,List.nil_append] at ho';exact ho'
abbrev zero3s:Array Value:=#[.string ⟨#[]⟩,.slice none 0 0,.int .i64 0]
set_option maxHeartbeats 4000000 in
theorem signature_v {s:M.Sg}{v:Value}{w:World}(h:IsSg w s v)(hl:s.args.length≤1000000)(hnm:s.name.length≤1000000000000): Calls Tryz.prog 117 #[v] w (GivesSgN w s):=by
 obtain⟨nm,ag,rt⟩:=s;obtain⟨A,c,rfl,hi⟩:=h;replace hi:Ints w ag (.slice A ag.length c):=hi;replace hl:ag.length≤1000000:=hl;show Calls Tryz.prog 117 #[sgv nm A ag.length c rt] w _;obtain⟨n,hn⟩:∃n,ag.length=n:=⟨_,rfl⟩;have HI:=hid (show Ints w ag (.slice A n c) from hn▸hi);have HLN:=hid hl;have HN:=hid hn;rw[hn];have HC:=hid (fun w'=>kclone_n nm hnm w');have HB0:=hid (show Box ((w.alloc (.cells #[str nm,.slice A n c,.int .i64 rt] 62)).alloc (.cells zero3s 62)) w.heap.size #[str nm,.slice A n c,.int .i64 rt] 62 from(Box.new w _ _).alloc _);have HB1:=hid (show Box ((w.alloc (.cells #[str nm,.slice A n c,.int .i64 rt] 62)).alloc (.cells zero3s 62)) (w.heap.size+1) zero3s 62 from Box.at_ (w:=w.alloc (.cells #[str nm,.slice A n c,.int .i64 rt] 62)) _ _ (by simp));have E0:=hid (alloc_two w (.cells #[str nm,.slice A n c,.int .i64 rt] 62) (.cells zero3s 62));clear hi hl hn hnm;go_enter Tryz.func117,Tryz.ntmps117
 go_upto_region 1 with (fail)
 refine vwp_at (fun W=>Box W w.heap.size #[str nm,.slice A n c,.int .i64 rt] 62∧Box W (w.heap.size+1) zero3s 62∧Ext w W) ⟨HB0.out,HB1.out,E0.out⟩ ?_;clear HB0 HB1 E0;intro W ⟨hb0,hb1,he⟩;obtain⟨g0,hg0⟩:∃g,w.heap.size=g:=⟨_,rfl⟩;have HG:=hid hg0;rw[hg0] at hb0 hb1 ⊢;have HB0:=hid hb0;have HB1:=hid hb1;have E:=hid he;clear hb0 hb1 he hg0;refine wp_region_D [(0,0),(1,0),(3,0),(4,0),(6,0),(7,0),(2,1),(5,1),(8,0),(9,4)] fun wd hb=>?_;replace E:=hid (E.out.trans hb);replace HB0:=hid (HB0.out.up hb);replace HB1:=hid (HB1.out.up hb);clear hb;refine WE.p 3 (.pointer (some ⟨g0,0,none⟩)) ?_;simp only[pX];refine WE.q 4 (str nm) rfl (fun w' hk=>by obtain⟨x0,x1,x2⟩:=box3b (HB0.out.up hk);go_simp) ?_;simp only[pX];refine WE.p 6 (.pointer (some ⟨g0,1,none⟩)) ?_;simp only[pX];refine WE.q 7 (.slice A n c) rfl (fun w' hk=>by obtain⟨x0,x1,x2⟩:=box3b (HB0.out.up hk);go_simp) ?_;simp only[pX];refine WE.p 9 (.pointer (some ⟨g0,2,none⟩)) ?_;simp only[pX];refine WE.q 10 (.int .i64 rt) rfl (fun w' hk=>by obtain⟨x0,x1,x2⟩:=box3b (HB0.out.up hk);go_simp) ?_;simp only[pX];refine WE.c 5 ((HC.out _).mono ?_);rintro e w1 ⟨rfl,hb⟩;refine⟨_,rfl,hb,?_⟩;replace E:=hid (E.out.trans hb);replace HB1:=hid (HB1.out.up hb);clear hb HC HB0;simp only[pX];obtain⟨v2,w2,hrun,hO2,hE2⟩:=appI_nil (HI.out.up E.out) HLN.out 60;obtain⟨A2,c2,rfl,-,-⟩:=kshape hO2;rw[HN.out] at hrun hO2;have HN2:=hid (show Ints (gp (fun b=>g0+2≤b) w2) ag (.slice A2 n c2) from hO2.ghost fun b h1 h2=>by have:=HB1.out.lt;omega);refine WE.act (d:=some 8) rfl rfl (by rfl) (kexec_app (.const (.slice none 0 0)) (.tmp 7) rfl rfl rfl hrun) hE2 ?_;replace E:=hid (E.out.trans hE2);replace HB1:=hid (HB1.out.up hE2);clear hrun hO2 hE2;simp only[pX];refine WE.p 11 (sgv nm A2 n c2 rt) ?_;simp only[pX];have r0:=HB1.out.k 0;have r1:=HB1.out.k 1;have r2:=HB1.out.k 2;obtain⟨f0,f1,f2⟩:=free3 HB1.out;have hz:=HB1.out.lt;refine WE.store (w':=put3v w2 (g0+1) (str nm) (.slice A2 n c2) (.int .i64 rt)) rfl rfl (by rfl) (by go_simp) (by simp) ?_;refine WE.done ?_;have hP:=put3v_ext (x0:=str nm) (x1:=.slice A2 n c2) (x2:=.int .i64 rt) E.out (show w.heap.size≤g0+1 by rw[HG.out];omega);have hI3:Ints (gp (fun b=>w.heap.size≤b) (put3v w2 (g0+1) (str nm) (.slice A2 n c2) (.int .i64 rt))) ag (.slice A2 n c2):=HN2.out.sub (gpv_mono (by simp) fun b hb hp=>⟨by rw[HG.out];have:g0+2≤b:=hp;show g0≤b;omega,put3v_kept.2 b hb (by have:g0+2≤b:=hp;simp;omega)⟩);have hB2:Box (put3v w2 (g0+1) (str nm) (.slice A2 n c2) (.int .i64 rt)) (g0+1) #[str nm,.slice A2 n c2,.int .i64 rt] 62:=((HB1.out.setAt 0 _).setAt 1 _).setAt 2 _;have HP:=hid hP;have HI3:=hid hI3;obtain⟨W3,hW3⟩:∃W3,W3=put3v w2 (g0+1) (str nm) (.slice A2 n c2) (.int .i64 rt):=⟨_,rfl⟩;rw[←hW3] at HP HI3 hB2 ⊢;clear hW3 r0 r1 r2 f0 f1 f2 hz hP hI3;obtain⟨r0,r1,r2⟩:=box3b hB2;have hz:=hB2.lt;go_wp2_with fail
 refine bodyPost_ret (v:=sgv nm A2 n c2 rt) (by simp[results,Tryz.results117,go_sem,r0,r1,r2,hz]) rfl ?_;exact⟨A2,c2,by rw[HN.out],by rw[HN.out];exact HI3.out,HP.out⟩
def M.rowWd (r:List M.Vl×M.Vl): Prop:=r.1.length≤100000∧(∀x∈r.1,x.2.2.length≤1000000)∧r.2.2.2.length≤1000000
set_option maxHeartbeats 8000000 in
theorem rows_v {l:List (List M.Vl×M.Vl)}{v:Value}{w:World}(h:RwList w l v)(hlen:l.length≤100000)(hwd:∀r∈l,M.rowWd r): Calls Tryz.prog 118 #[v] w (GivesG RC 4 69 w l):=by
 obtain⟨A,c,rfl⟩:=h.shape;obtain⟨hn,hl2,hl3⟩:=h.le;obtain⟨n,hn'⟩:∃n,l.length=n:=⟨_,rfl⟩;rw[hn'] at h hl2 hlen ⊢;have HK:=hid h;have HN:=hid hn';have HW:=hid hwd;clear h hn hn' hwd;go_enter Tryz.func118,Tryz.ntmps118
 go_wp2_with fail
 go_loopw[3,8] (fun x i wr=>∃k:Nat,k≤n∧i=.int .i64 k∧Hid (OwnG RC 4 69 w.heap.size wr x (l.take k)∧Ext w wr)) (fun _ i _=>n-(intOf i).toNat)
 case atStart=>exact⟨0,Nat.zero_le _,rfl,OwnG.nil _ _ _,Ext.refl _⟩
 case round=>
  obtain⟨k,hk,rfl,hR⟩:=hrel;have E:=hid hR.out.2;obtain⟨L,hL⟩:∃L,l.take k=L:=⟨_,rfl⟩;have hO:=hR.out.1;rw[hL] at hO;have HL:=hid hL;obtain⟨ln,hln⟩:∃n,L.length=n:=⟨_,rfl⟩;have HLK:=hid (show ln=k by rw[←hln,←hL,List.length_take,HN.out];omega);obtain⟨IA,ic,rfl,-,-⟩:=hO.shape;rw[hln] at hO ⊢;have HLN:=hid hln;have HO:=hid hO;clear hR hL hO hln;rcases Nat.lt_or_ge k n with hlt|hge
  ·have hlt':(k:Int)<(n:Int):=by omega
   obtain⟨r,hr⟩:∃r,l[k]?=some r:=⟨_,List.getElem?_eq_getElem (by rw[HN.out];exact hlt)⟩;obtain⟨ad,D,dn,dc,N,nn,nc,rfl,⟨c0,c1,c2,c3⟩,hvl,hnum⟩:=(HK.out.up E.out).get hr;have HU:=hid hr;have HWR:=HW.out r (List.mem_of_getElem? hr);have HC1:=hid (show ∀w',Ext wr w'→Calls Tryz.prog 155 #[.slice D dn dc] w' (GivesG VC 3 45 w' r.1) from fun w' e=>owned_v (hvl.up e) HWR.1 HWR.2.1);have HC2:=hid (show ∀w',Ext wr w'→Calls Tryz.prog 119 #[vv r.2.1 r.2.2.1 N nn nc] w' (GivesVN w' r.2) from fun w' e=>own_v (x:=r.2) ⟨N,nn,nc,rfl,LNum.up hnum e⟩ (Nat.le_trans HWR.2.2 (by decide)));have HB:=hid (Box.new wr #[.slice D dn dc,.int .i64 r.2.1,.bool r.2.2.1,.slice N nn nc] 69);have EB:=hid (Ext.alloc wr (.cells #[.slice D dn dc,.int .i64 r.2.1,.bool r.2.2.1,.slice N nn nc] 69));have HXb:=hid (show ∀b,b∈(Value.slice IA ln ic).ownBlock.toList→b<wr.heap.size from fun b hb=>(OwnL.lt HO.out b (by simpa using hb)).2);clear hr HWR hvl hnum;go_upto_region 5 with (fail)
   refine vwp_at (fun W=>Box W wr.heap.size #[.slice D dn dc,.int .i64 r.2.1,.bool r.2.2.1,.slice N nn nc] 69∧Ext wr W) ⟨HB.out,EB.out⟩ ?_;clear HB EB c0 c1 c2 c3;intro W ⟨hb0,he⟩;have HB:=hid hb0;have EW:=hid he;have HSZ:=hid (show wr.heap.size≤W.heap.size from he.size);clear hb0 he;refine wp_region_K (Value.slice IA ln ic).ownBlock.toList [(0,0),(1,0),(2,0),(4,0),(5,0),(3,1),(6,1),(7,0),(8,1),(9,1),(10,2)] fun wd hb=>?_;replace EW:=hid (EW.out.trans hb);replace HB:=hid (HB.out.up hb);have HSD:=hid (show wr.heap.size≤wd.heap.size from EW.out.size);clear hb;refine WK.p 12 (.slice IA ln ic) ?_;simp only[pX];refine WK.p 13 (.pointer (some ⟨wr.heap.size,0,none⟩)) ?_;simp only[pX];refine WK.q 14 (.slice D dn dc) rfl (fun w' hk=>by obtain⟨⟨x0,x1,x2,x3⟩,-⟩:=box4v (HB.out.kept hk (fun h=>by have:=HXb.out _ h;omega));go_simp) ?_;simp only[pX];refine WK.p 16 (.pointer (some ⟨wr.heap.size,1,none⟩)) ?_;simp only[pX];refine WK.q 17 (vv r.2.1 r.2.2.1 N nn nc) rfl (fun w' hk=>by obtain⟨⟨x0,x1,x2,x3⟩,-⟩:=box4v (HB.out.kept hk (fun h=>by have:=HXb.out _ h;omega));go_simp) ?_;simp only[pX];refine WK.c 15 ((HC1.out _ EW.out).mono ?_);rintro e w1 ⟨v1,rfl,hg1,hb⟩;refine⟨_,rfl,hb.kept _,?_⟩;have hvl1:=hg1.values;obtain⟨A1,c1,rfl,-,-⟩:=hg1.shape;obtain⟨an,han⟩:∃n,r.1.length=n:=⟨_,rfl⟩;rw[han] at hvl1 ⊢;have HV1:=hid hvl1;have E1:=hid (EW.out.trans hb);have HS1:=hid (show wd.heap.size≤w1.heap.size from hb.size);clear hb hg1 hvl1 han HC1 HB;simp only[pX];refine WK.c 18 ((HC2.out _ E1.out).mono ?_);rintro e w2 ⟨v2,rfl,⟨N2,n2,c2,rfl,hn2⟩,hb⟩;refine⟨_,rfl,hb.kept _,?_⟩;have HV2:=hid (show VList (gp (fun b=>wr.heap.size≤b) w2) (.slice A1 an c1) r.1 from HV1.out.sub (gp_low HSD.out hb));have HN2:=hid (show LNum (gp (fun b=>wr.heap.size≤b) w2) (.slice N2 n2 c2) r.2.2.2 from LNum.sub hn2 (gp_low (Nat.le_trans HSD.out HS1.out) (Ext.refl _)));have E2:=hid (E1.out.trans hb);clear hb hn2 HV1 HC2;simp only[pX];refine WK.p 19 (.agg #[.slice A1 an c1,.int .i64 r.2.1,.bool r.2.2.1,.slice N2 n2 c2]) ?_;simp only[pX];refine WK.act 20 (v:=.slice (some ⟨w2.heap.size,0,none⟩) 1 1) (w':=w2.alloc (.cells #[.slice A1 an c1,.int .i64 r.2.1,.bool r.2.2.1,.slice N2 n2 c2] 69)) rfl (by go_simp) ((Ext.alloc _ _).kept _) ?_;simp only[pX]
   obtain⟨v',w5,hrun,hO5,hB5,hK5⟩:=vappG_run rck rtk (c:=1) (m:=[r]) (OwnG.up rck (OwnG.up rck HO.out E2.out) (Ext.alloc w2 (.cells #[.slice A1 an c1,.int .i64 r.2.1,.bool r.2.2.1,.slice N2 n2 c2] 69)))
    (lsrc_one (us:=[.slice A1 an c1,.int .i64 r.2.1,.bool r.2.2.1,.slice N2 n2 c2]) ⟨A1,an,c1,N2,n2,c2,rfl,HV2.out.sub ((gp_extV (Ext.alloc w2 _)).trans (beside_new HO.out E.out.size (Nat.le_refl _))),LNum.sub HN2.out ((gp_extV (Ext.alloc w2 _)).trans (beside_new HO.out E.out.size (Nat.le_refl _)))⟩ (Box.new w2 _ _))
    (by rw[HLN.out];have:=HLK.out;simp;omega) (by have:=E.out.size;have:=E2.out.size;simp;omega) 63
   have HO5:=hid hO5;have E5:=hid (show Ext w w5 from Below.trans (B:=w.heap.size) ((E.out.trans E2.out).trans (Ext.alloc w2 _)) hB5);obtain⟨A5,c5,rfl,-,-⟩:=hO5.shape;refine WK.act 21 rfl (kexec_app (.tmp 12) (.tmp 20) rfl rfl rfl hrun) hK5 ?_;clear hrun hO5 hB5 hK5;simp only[pX];obtain⟨m5,hm5⟩:∃m5,(L++[r]).length=m5:=⟨_,rfl⟩;simp only[hm5];have HO6:=hid (show OwnG RC 4 69 w.heap.size w5 (.slice A5 m5 c5) (L++[r]) from hm5▸HO5.out);clear HO5 hm5;refine WK.y 3 (.slice A5 m5 c5) ?_;simp only[pX];refine WK.done ?_;go_wp2_with fail
   go_roundw
   case rel=>exact⟨k+1,by omega,by simp,by rw[List.take_add_one,HU.out,HL.out];exact HO6.out,E5.out⟩
   case measure=>simp[intOf];omega
  ·obtain rfl:k=n:=by omega
   go_wp2;go_ret;refine⟨_,rfl,?_,E.out⟩;have h1:=HL.out;rw[←HN.out,List.take_length] at h1;rw[h1];exact HO.out
def M.funWd (f:M.Fn): Prop:=f.sg.args.length≤1000000∧f.sg.name.length≤1000000000000∧f.rows.length≤100000∧(∀r∈f.rows,M.rowWd r)∧f.els.2.2.length≤2000000
set_option maxHeartbeats 8000000 in
set_option maxRecDepth 10000 in
theorem made_v {l:List M.Fn}{v:Value}{w:World}(h:FnList w l v)(hlen:l.length≤100000)(hwd:∀f∈l,M.funWd f): Calls Tryz.prog 76 #[v] w (GivesG FC 7 65 w l):=by
 obtain⟨A,c,rfl⟩:=h.shape;obtain⟨hn,hl2,hl3⟩:=h.le;obtain⟨n,hn'⟩:∃n,l.length=n:=⟨_,rfl⟩;rw[hn'] at h hl2 hlen ⊢;have HK:=hid h;have HN:=hid hn';have HW:=hid hwd;clear h hn hn' hwd;go_enter Tryz.func76,Tryz.ntmps76
 go_wp2_with fail
 go_loopw[3,8] (fun x i wr=>∃k:Nat,k≤n∧i=.int .i64 k∧Hid (OwnG FC 7 65 w.heap.size wr x (l.take k)∧Ext w wr)) (fun _ i _=>n-(intOf i).toNat)
 case atStart=>exact⟨0,Nat.zero_le _,rfl,OwnG.nil _ _ _,Ext.refl _⟩
 case round=>
  obtain⟨k,hk,rfl,hR⟩:=hrel;have E:=hid hR.out.2;obtain⟨L,hL⟩:∃L,l.take k=L:=⟨_,rfl⟩;have hO:=hR.out.1;rw[hL] at hO;have HL:=hid hL;obtain⟨ln,hln⟩:∃n,L.length=n:=⟨_,rfl⟩;have HLK:=hid (show ln=k by rw[←hln,←hL,List.length_take,HN.out];omega);obtain⟨IA,ic,rfl,-,-⟩:=hO.shape;rw[hln] at hO ⊢;have HLN:=hid hln;have HO:=hid hO;clear hR hL hO hln;rcases Nat.lt_or_ge k n with hlt|hge
  ·have hlt':(k:Int)<(n:Int):=by omega
   obtain⟨f,hf⟩:∃f,l[k]?=some f:=⟨_,List.getElem?_eq_getElem (by rw[HN.out];exact hlt)⟩;obtain⟨ad,SA,sn,sc,D,dn,dc,N,nn,nc,rfl,⟨⟨c0,c1,c2⟩,c3,c4,c5,c6⟩,hi,hvl,hnum⟩:=(HK.out.up E.out).get hf;have HU:=hid hf;have HWF:=HW.out f (List.mem_of_getElem? hf);have hsn:=hi.le.1;have HC0:=hid (show ∀w',Ext wr w'→Calls Tryz.prog 117 #[sgv f.sg.name SA sn sc f.sg.ret] w' (GivesSgN w' f.sg) from fun w' e=>signature_v (s:=f.sg) ⟨SA,sc,by rw[hsn],(show Ints wr f.sg.args (.slice SA f.sg.args.length sc) from hsn▸hi).up e⟩ HWF.1 HWF.2.1);have HC1:=hid (show ∀w',Ext wr w'→Calls Tryz.prog 118 #[.slice D dn dc] w' (GivesG RC 4 69 w' f.rows) from fun w' e=>rows_v (hvl.up e) HWF.2.2.1 HWF.2.2.2.1);have HC2:=hid (show ∀w',Ext wr w'→Calls Tryz.prog 119 #[vv f.els.1 f.els.2.1 N nn nc] w' (GivesVN w' f.els) from fun w' e=>own_v (x:=f.els) ⟨N,nn,nc,rfl,LNum.up hnum e⟩ HWF.2.2.2.2);have HB:=hid (Box.new wr #[str f.sg.name,.slice SA sn sc,.int .i64 f.sg.ret,.slice D dn dc,.int .i64 f.els.1,.bool f.els.2.1,.slice N nn nc] 65);have EB:=hid (Ext.alloc wr (.cells #[str f.sg.name,.slice SA sn sc,.int .i64 f.sg.ret,.slice D dn dc,.int .i64 f.els.1,.bool f.els.2.1,.slice N nn nc] 65));have HXb:=hid (show ∀b,b∈(Value.slice IA ln ic).ownBlock.toList→b<wr.heap.size from fun b hb=>(OwnL.lt HO.out b (by simpa using hb)).2);clear hf HWF hi hvl hnum hsn;go_upto_region 5 with (fail)
   refine vwp_at (fun W=>Box W wr.heap.size #[str f.sg.name,.slice SA sn sc,.int .i64 f.sg.ret,.slice D dn dc,.int .i64 f.els.1,.bool f.els.2.1,.slice N nn nc] 65∧Ext wr W) ⟨HB.out,EB.out⟩ ?_;clear HB EB c0 c1 c2 c3 c4 c5 c6;intro W ⟨hb0,he⟩;have HB:=hid hb0;have EW:=hid he;clear hb0 he;refine wp_region_K (Value.slice IA ln ic).ownBlock.toList [(0,0),(1,0),(2,0),(4,0),(5,0),(7,0),(8,0),(3,1),(6,1),(9,1),(10,0),(11,1),(12,1),(13,2)] fun wd hb=>?_;replace EW:=hid (EW.out.trans hb);replace HB:=hid (HB.out.up hb);have HSD:=hid (show wr.heap.size≤wd.heap.size from EW.out.size);clear hb;refine WK.p 12 (.slice IA ln ic) ?_;simp only[pX];refine WK.p 13 (.pointer (some ⟨wr.heap.size,0,none⟩)) ?_;simp only[pX];refine WK.q 14 (sgv f.sg.name SA sn sc f.sg.ret) rfl (fun w' hk=>by obtain⟨⟨x0,x1,x2,x3,x4,x5,x6⟩,-⟩:=box7v (HB.out.kept hk (fun h=>by have:=HXb.out _ h;omega));go_simp) ?_;simp only[pX];refine WK.p 16 (.pointer (some ⟨wr.heap.size,3,none⟩)) ?_;simp only[pX];refine WK.q 17 (.slice D dn dc) rfl (fun w' hk=>by obtain⟨⟨x0,x1,x2,x3,x4,x5,x6⟩,-⟩:=box7v (HB.out.kept hk (fun h=>by have:=HXb.out _ h;omega));go_simp) ?_;simp only[pX];refine WK.p 19 (.pointer (some ⟨wr.heap.size,4,none⟩)) ?_;simp only[pX];refine WK.q 20 (vv f.els.1 f.els.2.1 N nn nc) rfl (fun w' hk=>by obtain⟨⟨x0,x1,x2,x3,x4,x5,x6⟩,-⟩:=box7v (HB.out.kept hk (fun h=>by have:=HXb.out _ h;omega));go_simp) ?_;simp only[pX];refine WK.c 15 ((HC0.out _ EW.out).mono ?_);rintro e w0 ⟨A0,ac,rfl,hi0,hb⟩;refine⟨_,rfl,hb.kept _,?_⟩;obtain⟨an,han⟩:∃n,f.sg.args.length=n:=⟨_,rfl⟩;rw[han] at hi0 ⊢;have HI0:=hid hi0;have E0:=hid (EW.out.trans hb);have HS0:=hid (show wr.heap.size≤w0.heap.size from Nat.le_trans HSD.out hb.size);clear hb hi0 HC0 HB han;simp only[pX];refine WK.c 18 ((HC1.out _ E0.out).mono ?_);rintro e w1 ⟨v1,rfl,hg1,hb⟩;refine⟨_,rfl,hb.kept _,?_⟩;have hvl1:=hg1.rows;obtain⟨A1,c1,rfl,-,-⟩:=hg1.shape;obtain⟨rn,hrn⟩:∃n,f.rows.length=n:=⟨_,rfl⟩;rw[hrn] at hvl1 ⊢;have HI1:=hid (show Ints (gp (fun b=>wr.heap.size≤b) w1) f.sg.args (.slice A0 an ac) from HI0.out.sub (gp_low HSD.out hb));have HV1:=hid (show RwList (gp (fun b=>wr.heap.size≤b) w1) f.rows (.slice A1 rn c1) from hvl1.sub (gp_low HS0.out (Ext.refl _)));have E1:=hid (E0.out.trans hb);have HS1:=hid (show wr.heap.size≤w1.heap.size from Nat.le_trans HS0.out hb.size);clear hb hg1 hvl1 hrn HC1 HI0;simp only[pX];refine WK.c 21 ((HC2.out _ E1.out).mono ?_);rintro e w2 ⟨v2,rfl,⟨N2,n2,c2,rfl,hn2⟩,hb⟩;refine⟨_,rfl,hb.kept _,?_⟩;have HI2:=hid (show Ints (gp (fun b=>wr.heap.size≤b) w2) f.sg.args (.slice A0 an ac) from HI1.out.sub (gp_extV hb));have HV2:=hid (show RwList (gp (fun b=>wr.heap.size≤b) w2) f.rows (.slice A1 rn c1) from HV1.out.sub (gp_extV hb));have HN2:=hid (show LNum (gp (fun b=>wr.heap.size≤b) w2) (.slice N2 n2 c2) f.els.2.2 from LNum.sub hn2 (gp_low HS1.out (Ext.refl _)));have E2:=hid (E1.out.trans hb);clear hb hn2 HV1 HC2 HI1;simp only[pX];refine WK.p 22 (fv f.sg.name A0 an ac f.sg.ret A1 rn c1 f.els.1 f.els.2.1 N2 n2 c2) ?_;simp only[pX];refine WK.act 23 (v:=.slice (some ⟨w2.heap.size,0,none⟩) 1 1) (w':=w2.alloc (.cells #[str f.sg.name,.slice A0 an ac,.int .i64 f.sg.ret,.slice A1 rn c1,.int .i64 f.els.1,.bool f.els.2.1,.slice N2 n2 c2] 65)) rfl (by go_simp) ((Ext.alloc _ _).kept _) ?_;simp only[pX];have hbn:=fun w'=>beside_new (w:=w') HO.out E.out.size (Nat.le_refl _)
   obtain⟨v',w5,hrun,hO5,hB5,hK5⟩:=vappG_run fck ftk (c:=1) (m:=[f]) (OwnG.up fck (OwnG.up fck HO.out E2.out) (Ext.alloc w2 (.cells #[str f.sg.name,.slice A0 an ac,.int .i64 f.sg.ret,.slice A1 rn c1,.int .i64 f.els.1,.bool f.els.2.1,.slice N2 n2 c2] 65)))
    (lsrc_one (us:=[str f.sg.name,.slice A0 an ac,.int .i64 f.sg.ret,.slice A1 rn c1,.int .i64 f.els.1,.bool f.els.2.1,.slice N2 n2 c2]) ⟨A0,an,ac,A1,rn,c1,N2,n2,c2,rfl,HI2.out.sub ((gp_extV (Ext.alloc w2 _)).trans (hbn _)),HV2.out.sub ((gp_extV (Ext.alloc w2 _)).trans (hbn _)),LNum.sub HN2.out ((gp_extV (Ext.alloc w2 _)).trans (hbn _))⟩ (Box.new w2 _ _))
    (by rw[HLN.out];have:=HLK.out;simp;omega) (by have:=E.out.size;have:=E2.out.size;simp;omega) 28
   have HO5:=hid hO5;have E5:=hid (show Ext w w5 from Below.trans (B:=w.heap.size) ((E.out.trans E2.out).trans (Ext.alloc w2 _)) hB5);obtain⟨A5,c5,rfl,-,-⟩:=hO5.shape;refine WK.act 24 rfl (kexec_app (.tmp 12) (.tmp 23) rfl rfl rfl hrun) hK5 ?_;clear hrun hO5 hB5 hK5 hbn;simp only[pX];obtain⟨m5,hm5⟩:∃m5,(L++[f]).length=m5:=⟨_,rfl⟩;simp only[hm5];have HO6:=hid (show OwnG FC 7 65 w.heap.size w5 (.slice A5 m5 c5) (L++[f]) from hm5▸HO5.out);clear HO5 hm5;refine WK.y 3 (.slice A5 m5 c5) ?_;simp only[pX];refine WK.done ?_;go_wp2_with fail
   go_roundw
   case rel=>exact⟨k+1,by omega,by simp,by rw[List.take_add_one,HU.out,HL.out];exact HO6.out,E5.out⟩
   case measure=>simp[intOf];omega
  ·obtain rfl:k=n:=by omega
   go_wp2;go_ret;refine⟨_,rfl,?_,E.out⟩;have h1:=HL.out;rw[←HN.out,List.take_length] at h1;rw[h1];exact HO.out
end Go.Proofs.YtoenjbkmiphhoaaGreatDoor.Q
