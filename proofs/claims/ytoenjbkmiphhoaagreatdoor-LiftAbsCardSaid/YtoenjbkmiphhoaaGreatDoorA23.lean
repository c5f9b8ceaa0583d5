/-
  Package term, words: terms in a world of some blocks alone; rows that append lays anew.
-/
import Derived.Test.YtoenjbkmiphhoaaGreatDoorA21
import Derived.Test.YtoenjbkmiphhoaaGreatDoorA22
namespace Go.Proofs.YtoenjbkmiphhoaaGreatDoor.Q
set_option linter.unusedSimpArgs false
set_option linter.unusedVariables false
open Go.RowKit
theorem LNum.sub {w w':World}{v:Value}{ls:List Nat}(h:LNum w v ls)(e:Sub w w'): LNum w' v ls:=by
 obtain⟨A,n,c,h1,h2,h3,h4,h5,h6⟩:=h;refine⟨A,n,c,h1,h2,h3,h4,h5,fun hne=>?_⟩;obtain⟨ad,ha,hb,hc⟩:=h6 hne;exact⟨ad,ha,Nat.lt_of_lt_of_le hb e.1,fun i x hx=>e.2 _ _ (hc i x hx)⟩
theorem TmAt.sub {w w':World}(e:Sub w w')(t:M.Tm): ∀{a:Addr},TmAt w t a→TmAt w' t a:=by
 refine M.Tm.indA (P:=fun t=>∀{a:Addr},TmAt w t a→TmAt w' t a) (fun op g ls nm s ks ih a h=>?_) t;obtain⟨N,nn,nc,v,h6,hn,hk⟩:=tmAt_mk.1 h;obtain⟨A,n,c,h1,h2,h3,h4,h5⟩:=hk.at_;refine tmAt_mk.2 ⟨N,nn,nc,v,⟨⟨e.2 _ _ h6.1.1,e.2 _ _ h6.1.2.1,e.2 _ _ h6.1.2.2⟩,e.2 _ _ h6.2.1,e.2 _ _ h6.2.2.1,e.2 _ _ h6.2.2.2⟩,hn.sub e,Tms.mk_ ⟨A,n,c,h1,h2,h3,h4,fun hne=>?_⟩⟩;obtain⟨ad,e1,e2,e3⟩:=h5 hne;exact⟨ad,e1,Nat.lt_of_lt_of_le e2 e.1,fun k t hk=>ih k t hk (e3 k t hk)⟩
theorem Tms.sub {w w':World}{ks:List M.Tm}{v:Value}(h:Tms w ks v)(e:Sub w w'): Tms w' ks v:=by
 obtain⟨A,n,c,h1,h2,h3,h4,h5⟩:=h.at_;refine Tms.mk_ ⟨A,n,c,h1,h2,h3,h4,fun hne=>?_⟩;obtain⟨ad,e1,e2,e3⟩:=h5 hne;exact⟨ad,e1,Nat.lt_of_lt_of_le e2 e.1,fun k t hk=>TmAt.sub e t (e3 k t hk)⟩
theorem IsTm.sub {w w':World}{t:M.Tm}{v:Value}(h:IsTm w t v)(e:Sub w w'): IsTm w' t v:=by
 obtain⟨N,nn,nc,A,c,h1,h2,h3⟩:=h;exact⟨N,nn,nc,A,c,h1,h2.sub e,h3.sub e⟩
theorem own_ghost {base:Nat}{w:World}{v:Value}{l:List Nat}(h:Own base w v l){p:Nat→Prop}[DecidablePred p](hp:∀b,base≤b→b<w.heap.size→p b): LNum (gp p w) v l:=by
 obtain⟨h,hs⟩:=h;have hh:=h;obtain⟨hl,h2⟩:=h;rcases h2 with⟨rfl,h0⟩|⟨g,cap,cur,rfl,hb,hg,hc,hm,_,_⟩
 ·have:l=[]:=List.eq_nil_of_length_eq_zero h0;subst this;exact LNum.nil _
 ·have hlt:g<w.heap.size:=(Array.getElem?_eq_some_iff.1 hg).1;refine⟨_,_,_,rfl,rfl,hc,hm,hs,fun hn=>⟨_,rfl,by rw[gp_size];exact hlt,fun i x hx=>?_⟩⟩;exact gp_cell.2 ⟨by rw[addr_block];exact hp g hb hlt,hh.cells (g:=g) rfl i _ (by rw[List.getElem?_map,hx];rfl)⟩
theorem appU_nil {w:World}{A:Option Addr}{n c:Nat}{l:List Nat}(h:LNum w (.slice A n c) l)(hlen:l.length≤2000000)(ty:TypeId):
 ∃v' w',(Builtin.append_ #[22,22] ty #[.slice none 0 0,.slice A n c]).run Tryz.prog w=.ok v' w'∧Own w.heap.size w' v' l∧Ext w w':=by
 obtain⟨i0,hi,hz0,hz1,hz2⟩:=info_parts info_u32;obtain⟨A',n',c',e,h2,h3,h4,h5,h6⟩:=h;injection e with e1 e2 e3;subst e1 e2 e3
 by_cases hne:l=[]
 ·subst hne;obtain rfl:n=0:=h2;refine⟨.slice none 0 0,w,?_,Own.nil w _,Ext.refl _⟩;cases A<;>simp[Builtin.append_,run_underlying Tryz.underlying22,sizeOf,typeInfo,hi,Builtin.lenOf,Builtin.firstCells,loadCells,loadCellsFrom]
 ·obtain⟨ad,rfl,hb,hc⟩:=h6 hne;subst h2
  obtain⟨v',w',hrun,ho',hg,_,_⟩:=run_append_own_at (P:=Tryz.prog) w w.heap.size 22 ty 114 i0 _ 1 4 Tryz.underlying22 hi hz0 hz1 hz2 rfl (by decide) (.slice none 0 0) 0 [] (World.ownsRow_nil w _ _ 1) ad l.length c (l.map fun x:Nat=>Value.int .u32 (x:Int)) (by simp)
   (by
    intro j u hj;rw[List.getElem?_map] at hj;obtain⟨x,hx,rfl⟩:=Option.map_eq_some_iff.1 hj;exact hc j x hx)
   (by
    intro u hu;obtain⟨x,_,rfl⟩:=List.mem_map.1 hu;rfl) (by unfold maxLen;omega) (by omega) (Nat.le_refl _)
  refine⟨v',w',hrun,⟨by rw[Nat.zero_add,List.nil_append] at ho';exact ho',h5⟩,(Below.refl _ _).grown hg (Nat.le_refl _) fun k hk=>by simp[Value.ownBlock] at hk⟩
theorem tms_cells {w:World}{ad:Addr}: ∀(l:List M.Tm) (j:Nat),(∀(k:Nat) (t:M.Tm),l[k]?=some t→TmAt w t (ad.add ((j+k)*6)))→∃xs:List Value,xs.length=l.length*6∧(∀u∈xs,u.oneCell'=true)∧∀(i:Nat) (u:Value),xs[i]?=some u→w.cell? (ad.add (j*6+i))=some u
 | [],j,_=>⟨[],rfl,by simp,fun i u h=>by simp at h⟩
 | ⟨op,g,ls,nm,so,ks⟩::r,j,h=>by
  obtain⟨ys,hy,h1,hc⟩:=tms_cells (ad:=ad) r (j+1) (fun k t hk=>by
   have:=h (k+1) t (by simpa using hk)
   rwa [show (j+(k+1))*6=(j+1+k)*6 by omega] at this)
  obtain⟨N,nn,nc,v,⟨⟨c0,c1,c2⟩,c3,c4,c5⟩,-,hk⟩:=tmAt_mk.1 (h 0 _ rfl);obtain⟨B,d,rfl⟩:=hk.shape;rw[Addr.add_add] at c1 c2 c3 c4 c5;refine⟨.int .i64 op::.bool g::.slice N nn nc::str nm::.int .i64 so::.slice B ks.length d::ys,by simp[hy];omega,?_,fun i u hi=>?_⟩
  ·intro u hu;simp only[List.mem_cons] at hu;rcases hu with rfl|rfl|rfl|rfl|rfl|rfl|hu
   ·rfl
   ·rfl
   ·rfl
   ·rfl
   ·rfl
   ·rfl
   ·exact h1 u hu
  ·match i,hi with
   | 0,hi=>simp at hi;subst hi;exact c0
   | 1,hi=>simp at hi;subst hi;exact c1
   | 2,hi=>simp at hi;subst hi;exact c2
   | 3,hi=>simp at hi;subst hi;exact c3
   | 4,hi=>simp at hi;subst hi;exact c4
   | 5,hi=>simp at hi;subst hi;exact c5
   | i+6,hi=>
    have:=hc i u (by simpa using hi)
    rwa [show (j+1)*6+i=j*6+(i+6) by omega] at this
theorem appT_nil {w:World}{A:Option Addr}{n c:Nat}{l:List M.Tm}(h:Tms w l (.slice A n c))(hlen:l.length≤1000000)(ty:TypeId):
 ∃A' c' w',(Builtin.append_ #[25,25] ty #[.slice none 0 0,.slice A n c]).run Tryz.prog w=.ok (.slice A' n c') w'∧Ext w w'∧n≤c'∧c'≤maxLen ∧
  (n≠0→∃g cur,A'=some ⟨g,0,none⟩∧w.heap.size≤g∧w'.heap[g]?=some (.cells cur 27 (0,0))∧n*6≤cur.size):=by
 obtain⟨i0,hi,hz0,hz1,hz2⟩:=info_parts info_tm8;obtain⟨A',n',c',e,h2,h3,h4,h5⟩:=h.at_;injection e with e1 e2 e3;subst e1 e2 e3
 by_cases hne:l=[]
 ·subst hne;obtain rfl:n=0:=h2;refine⟨none,0,w,?_,Ext.refl _,Nat.le_refl _,Nat.zero_le _,fun h=>absurd rfl h⟩;cases A<;>simp[Builtin.append_,run_underlying Tryz.underlying25,sizeOf,typeInfo,hi,Builtin.lenOf,Builtin.firstCells,loadCells,loadCellsFrom]
 ·obtain⟨ad,rfl,hb,hc⟩:=h5 hne;subst h2;have hl0:l.length≠0:=fun e=>hne (List.eq_nil_of_length_eq_zero e);obtain⟨xs,hx1,hx2,hx3⟩:=tms_cells (w:=w) (ad:=ad) l 0 (fun k t hk=>by rw[Nat.zero_add];exact hc k t hk)
  obtain⟨v',w',hrun,ho',hg,_,_⟩:=run_append_own_at (P:=Tryz.prog) w w.heap.size 25 ty 27 i0 _ 6 88 Tryz.underlying25 hi hz0 hz1 hz2 rfl (by decide) (.slice none 0 0) 0 [] (World.ownsRow_nil w _ _ 6) ad l.length c xs hx1
   (by
    intro j u hj;have:=hx3 j u hj
    rwa [Nat.zero_mul,Nat.zero_add] at this) hx2 (by unfold maxLen;omega) (by omega) (Nat.le_refl _)
  rw[Nat.zero_add,List.nil_append] at ho';have he:Ext w w':=(Below.refl _ _).grown hg (Nat.le_refl _) fun k hk=>by simp[Value.ownBlock] at hk
  rcases ho'.2 with⟨_,h0⟩|⟨g,cap,cur,rfl,hb',hg',hn',hm',hsz,_⟩
  ·exact absurd h0 hl0
  ·exact⟨_,cap,w',hrun,he,hn',hm',fun _=>⟨g,cur,rfl,hb',hg',by rw[hsz];exact Nat.mul_le_mul_right _ hn'⟩⟩
def GivesTN (w:World)(t:M.Tm)(e:Ending)(w':World): Prop:=∃v,e=.returned v∧IsTm (gp (fun b=>w.heap.size≤b) w') t v∧Ext w w'
def MdC (G:World)(cur:Array Value)(t:M.Tm)(o:Nat): Prop:=∃N nn nc v,(cur[o]?=some (.int .i64 t.op)∧cur[o+1]?=some (.bool t.g)∧cur[o+2]?=some (.slice N nn nc)∧cur[o+3]?=some (str t.name)∧cur[o+4]?=some (.int .i64 t.sort)∧cur[o+5]?=some v)∧LNum G (.slice N nn nc) t.ls∧Tms G t.kids v
theorem MdC.sub {G G':World}{cur:Array Value}{t:M.Tm}{o:Nat}(h:MdC G cur t o)(e:Sub G G'): MdC G' cur t o:=by
 obtain⟨N,nn,nc,v,h1,h2,h3⟩:=h;exact⟨N,nn,nc,v,h1,h2.sub e,h3.sub e⟩
abbrev mdP (B k5 gk b:Nat): Prop:=B≤b∧b≠k5∧b≠gk
abbrev put6A (w:World)(g p:Nat)(x0 x1 x2 x3 x4 x5:Value): World:=(((((w.setCell ⟨g,p,none⟩ x0).setCell ⟨g,p+1,none⟩ x1).setCell ⟨g,p+2,none⟩ x2).setCell ⟨g,p+3,none⟩ x3).setCell ⟨g,p+4,none⟩ x4).setCell ⟨g,p+5,none⟩ x5
abbrev cur6 (cur:Array Value)(p:Nat)(x0 x1 x2 x3 x4 x5:Value): Array Value:=(((((cur.setIfInBounds p x0).setIfInBounds (p+1) x1).setIfInBounds (p+2) x2).setIfInBounds (p+3) x3).setIfInBounds (p+4) x4).setIfInBounds (p+5) x5
theorem put6A_box {w:World}{g p:Nat}{cur:Array Value}{T:TypeId}{x0 x1 x2 x3 x4 x5:Value}(h:Box w g cur T): Box (put6A w g p x0 x1 x2 x3 x4 x5) g (cur6 cur p x0 x1 x2 x3 x4 x5) T:=(((((h.setAt _ _).setAt _ _).setAt _ _).setAt _ _).setAt _ _).setAt _ _
theorem put6A_far {w:World}{g p b:Nat}{x0 x1 x2 x3 x4 x5:Value}(h:b≠g): (put6A w g p x0 x1 x2 x3 x4 x5).heap[b]?=w.heap[b]?:=by
 have key:∀(w:World) (o:Nat) (x:Value),(w.setCell ⟨g,o,none⟩ x).heap[b]?=w.heap[b]?:=fun w o x=>Below.heap_setCell w _ _ _ (show b≠g from h);rw[key,key,key,key,key,key]
theorem put6A_size {w:World}{g p:Nat}{x0 x1 x2 x3 x4 x5:Value}: (put6A w g p x0 x1 x2 x3 x4 x5).heap.size=w.heap.size:=by simp
theorem put6A_ext {w w1:World}{g p:Nat}{x0 x1 x2 x3 x4 x5:Value}(e:Ext w w1)(hk:w.heap.size≤g): Ext w (put6A w1 g p x0 x1 x2 x3 x4 x5):=(((((e.set' hk _).set' hk _).set' hk _).set' hk _).set' hk _).set' hk _
theorem cur6_at {cur:Array Value}{p:Nat}{x0 x1 x2 x3 x4 x5:Value}(h:p+6≤cur.size):
 (cur6 cur p x0 x1 x2 x3 x4 x5)[p]?=some x0∧(cur6 cur p x0 x1 x2 x3 x4 x5)[p+1]?=some x1∧(cur6 cur p x0 x1 x2 x3 x4 x5)[p+2]?=some x2∧(cur6 cur p x0 x1 x2 x3 x4 x5)[p+3]?=some x3∧(cur6 cur p x0 x1 x2 x3 x4 x5)[p+4]?=some x4∧(cur6 cur p x0 x1 x2 x3 x4 x5)[p+5]?=some x5:=by
 refine⟨?_,?_,?_,?_,?_,?_⟩
 all_goals
  simp[cur6,Array.getElem?_setIfInBounds]
 all_goals omega
theorem cur6_off {cur:Array Value}{p i:Nat}{x0 x1 x2 x3 x4 x5:Value}(h:i<p∨p+6≤i): (cur6 cur p x0 x1 x2 x3 x4 x5)[i]?=cur[i]?:=by
 simp only[cur6,Array.getElem?_setIfInBounds,Array.size_setIfInBounds]
 repeat' split
 all_goals first|rfl|omega
theorem cur6_size {cur:Array Value}{p:Nat}{x0 x1 x2 x3 x4 x5:Value}: (cur6 cur p x0 x1 x2 x3 x4 x5).size=cur.size:=by simp[cur6]
theorem MdC.off {G:World}{cur:Array Value}{t:M.Tm}{o p:Nat}{x0 x1 x2 x3 x4 x5:Value}(h:MdC G cur t o)(hp:o+6≤p): MdC G (cur6 cur p x0 x1 x2 x3 x4 x5) t o:=by
 obtain⟨N,nn,nc,v,⟨c0,c1,c2,c3,c4,c5⟩,h2,h3⟩:=h;refine⟨N,nn,nc,v,⟨?_,?_,?_,?_,?_,?_⟩,h2,h3⟩
 all_goals (rw[cur6_off (by omega)];assumption)
def RoundMd (w:World)(k5 gk:Nat)(op:Int)(g:Bool)(N:Option Addr)(nn nc:Nat)(nm:List UInt8)(so:Int)(A:Option Addr)(n c:Nat)(ls:List Nat)(ks:List M.Tm)(k:Nat)(wr:World): Prop:=
 Box wr (w.heap.size+1) zero6 27∧Box wr k5 #[.int .i64 op,.bool g,.slice N nn nc,str nm,.int .i64 so,.slice A n c] 27∧LNum (gp (mdP (w.heap.size+2) k5 gk) wr) (.slice N nn nc) ls∧Ext w wr ∧
 (n≠0→∃cur,Box wr gk cur 27∧n*6≤cur.size∧∀j t,j<k→ks[j]?=some t→MdC (gp (mdP (w.heap.size+2) k5 gk) wr) cur t (j*6))
set_option maxHeartbeats 16000000 in
set_option maxRecDepth 100000 in
theorem made_n:∀(F:Nat) {ks:List M.Tm} {op:Int} {g:Bool} {ls:List Nat} {nm:List UInt8} {so:Int} {N0:Option Addr} {nn0 nc0:Nat} {A0:Option Addr} {n0 c0:Nat} {v:Value} {w:World},M.kcnts ks<F→M.kcnts ks≤1000→M.kfews ks=true→nm.length≤1000000000000→ls.length≤1000000 →
 LNum w (.slice N0 nn0 nc0) ls→Tms w ks v→Calls Tryz.prog 176 #[kv op g N0 nn0 nc0 nm so A0 n0 c0,v] w (GivesTN w (.mk op g ls nm so ks)):=by
 intro F
 induction F with
 | zero=>intro ks op g ls nm so N0 nn0 nc0 A0 n0 c0 v w h;omega
 | succ F ih=>
  intro ks op g ls nm so N0 nn0 nc0 A0 n0 c0 v w hF hF2 hfew hnm hls hn hk;obtain⟨A,c,rfl⟩:=hk.shape;obtain⟨hl1,hl2,hl3⟩:=hk.le;have hlc:=M.kcnts_len ks;have HK:=hid hk;have HN:=hid hn;have IH:=@hid _ @ih;have HC:=hid (fun w'=>kclone_n nm hnm w');have HFW:=hid hfew;have HF:=hid hF;have HF2:=hid hF2;have HLS:=hid hls;have HLC:=hid hlc;obtain⟨n,hnn⟩:∃n,ks.length=n:=⟨_,rfl⟩;rw[hnn] at HK HLC hl2 ⊢;have HNN:=hid hnn;clear hk hn ih hnm hfew hF hF2 hls hlc hl1 hnn;have HB:=hid (show Box ((w.alloc (.cells #[.int .i64 op,.bool g,.slice N0 nn0 nc0,str nm,.int .i64 so,.slice A0 n0 c0] 27)).alloc (.cells zero6 27)) w.heap.size #[.int .i64 op,.bool g,.slice N0 nn0 nc0,str nm,.int .i64 so,.slice A0 n0 c0] 27 from(Box.new w _ _).alloc _);have HR:=hid (show Box ((w.alloc (.cells #[.int .i64 op,.bool g,.slice N0 nn0 nc0,str nm,.int .i64 so,.slice A0 n0 c0] 27)).alloc (.cells zero6 27)) (w.heap.size+1) zero6 27 from Box.at_ (w:=w.alloc (.cells #[.int .i64 op,.bool g,.slice N0 nn0 nc0,str nm,.int .i64 so,.slice A0 n0 c0] 27)) _ _ (by simp));go_enter Tryz.func176,Tryz.ntmps176
  go_wp2_with fail
  refine wp_region_L [(0,0),(1,0),(2,0),(3,0),(4,0),(5,0),(7,0),(8,0),(6,2),(9,0),(10,3),(11,4)] 27 zero6 fun wd hb=>?_;have E:=hid ((alloc_two w _ _).trans hb);replace HB:=hid (HB.out.up hb);replace HR:=hid (HR.out.up hb);have hB0:=HR.out.lt;clear hb;refine WE.p 8 (.pointer (some ⟨w.heap.size,0,none⟩)) ?_;simp only[pX];refine WE.q 9 (.int .i64 op) rfl (fun w' hk=>by have ce:=(HB.out.up hk).k 0;go_simp) ?_;simp only[pX];refine WE.p 10 (.pointer (some ⟨w.heap.size,1,none⟩)) ?_;simp only[pX];refine WE.q 11 (.agg #[.bool g,.slice N0 nn0 nc0]) rfl (fun w' hk=>by have ce:=(HB.out.up hk).k 1;have cf:=(HB.out.up hk).k 2;go_simp) ?_;simp only[pX];refine WE.p 12 (.pointer (some ⟨w.heap.size,3,none⟩)) ?_;simp only[pX];refine WE.q 13 (str nm) rfl (fun w' hk=>by have ce:=(HB.out.up hk).k 3;go_simp) ?_;simp only[pX];refine WE.p 15 (.pointer (some ⟨w.heap.size,4,none⟩)) ?_;simp only[pX];refine WE.q 16 (.int .i64 so) rfl (fun w' hk=>by have ce:=(HB.out.up hk).k 4;go_simp) ?_;simp only[pX];refine WE.callR (d:=some 14) rfl rfl (by rfl) (fun w=>by go_simp) fun wa hea=>((HC.out wa).mono ?_);rintro e w2 ⟨rfl,hb⟩;refine⟨_,rfl,hb,?_⟩;replace E:=hid (E.out.trans (hea.trans hb));replace HB:=hid (HB.out.up (hea.trans hb));replace HR:=hid (HR.out.up (hea.trans hb));clear hb hea;simp only[pX];refine WE.p 17 (kv op g N0 nn0 nc0 nm so none 0 0) ?_;simp only[pX];refine WE.var (d:=some 5) rfl fun k5 w3 hx0 hbox hge hng=>?_;have hk5:w.heap.size+1<k5:=by omega
  replace E:=hid (E.out.trans hx0);replace HB:=hid (HB.out.up hx0);replace HR:=hid (HR.out.up hx0);obtain⟨⟨a0,a1,a2,a3,a4,a5⟩,⟨f0,f1,f2,f3,f4,f5⟩,hz5⟩:=boxF6 hbox;have HO:=hid hbox;clear hx0 hbox hge hng;simp only[pX];refine WE.store (w':=put6 w3 k5 (.int .i64 op) (.bool g) (.slice N0 nn0 nc0) (str nm) (.int .i64 so) (.slice none 0 0)) rfl rfl (by rfl) (by go_simp) (by simp) ?_;refine WE.done ?_;obtain⟨W,hW⟩:∃W,W=put6 w3 k5 (.int .i64 op) (.bool g) (.slice N0 nn0 nc0) (str nm) (.int .i64 so) (.slice none 0 0):=⟨_,rfl⟩;rw[←hW];replace HB:=hid (show Box W w.heap.size #[.int .i64 op,.bool g,.slice N0 nn0 nc0,str nm,.int .i64 so,.slice A0 n0 c0] 27 by rw[hW];exact HB.out.kept put6_kept (by simp;omega));replace HR:=hid (show Box W (w.heap.size+1) zero6 27 by rw[hW];exact HR.out.kept put6_kept (by simp;omega));replace HO:=hid (show Box W k5 #[.int .i64 op,.bool g,.slice N0 nn0 nc0,str nm,.int .i64 so,.slice none 0 0] 27 by rw[hW];exact(((((HO.out.setAt 0 _).setAt 1 _).setAt 2 _).setAt 3 _).setAt 4 _).setAt 5 _);replace E:=hid (show Ext w W by rw[hW];exact put6_ext E.out (by omega));clear hW a0 a1 a2 a3 a4 a5 f0 f1 f2 f3 f4 f5 hz5;go_upto_region 2 with (fail)
  refine wp_region_S [(0,0),(1,0),(2,0),(3,1),(4,0),(5,0),(6,4)] fun wd2 hb=>?_;replace E:=hid (E.out.trans hb);replace HB:=hid (HB.out.up hb);replace HR:=hid (HR.out.up hb);replace HO:=hid (HO.out.up hb);have hO0:=HO.out.lt;clear hb;refine WE.p 18 (.pointer (some ⟨w.heap.size,1,none⟩)) ?_;simp only[pX];refine WE.p 19 (.pointer (some ⟨w.heap.size,2,none⟩)) ?_;simp only[pX];refine WE.q 20 (.slice N0 nn0 nc0) rfl (fun w' hk=>by have ce:=(HB.out.up hk).k 2;go_simp) ?_;simp only[pX];obtain⟨vN,w4,hrun,hOw,hE4⟩:=appU_nil (HN.out.up E.out) (by have:=HLS.out;omega) 22;refine WE.act (d:=some 21) rfl rfl (by rfl) (kexec_app (.const (.slice none 0 0)) (.tmp 20) rfl rfl rfl hrun) hE4 ?_;obtain⟨N1,nn1,nc1,rfl⟩:∃N1 nn1 nc1,vN=.slice N1 nn1 nc1:=by
   obtain⟨A1,c1,h1,-,-⟩:=kshape hOw.1;exact⟨A1,_,c1,h1⟩
  replace E:=hid (E.out.trans hE4);replace HR:=hid (HR.out.up hE4);replace HO:=hid (HO.out.up hE4);have HNW:=hid (show LNum (gp (mdP (w.heap.size+2) k5 k5) w4) (.slice N1 nn1 nc1) ls from own_ghost hOw fun b h1 h2=>⟨by omega,by omega,by omega⟩);clear hrun hOw hE4;simp only[pX];refine WE.p 22 (.pointer (some ⟨k5,1,none⟩)) ?_;simp only[pX];refine WE.p 23 (.pointer (some ⟨k5,2,none⟩)) ?_;simp only[pX];have hc2:=HO.out.k 2;have hf2:=HO.out.free 2;have hlt5:=HO.out.lt;refine WE.store (w':=w4.setCell ⟨k5,2,none⟩ (.slice N1 nn1 nc1)) rfl rfl (by rfl) (by go_simp) (by simp) ?_;refine WE.done ?_;obtain⟨W,hW⟩:∃W,W=w4.setCell ⟨k5,2,none⟩ (.slice N1 nn1 nc1):=⟨_,rfl⟩;rw[←hW];replace HR:=hid (show Box W (w.heap.size+1) zero6 27 by rw[hW];exact HR.out.far (show w.heap.size+1≠k5 by omega) _);replace HO:=hid (show Box W k5 #[.int .i64 op,.bool g,.slice N1 nn1 nc1,str nm,.int .i64 so,.slice none 0 0] 27 by rw[hW];exact HO.out.setAt 2 _);replace E:=hid (show Ext w W by rw[hW];exact E.out.set' (by show w.heap.size≤k5;omega) _);replace HNW:=hid (show LNum (gp (mdP (w.heap.size+2) k5 k5) W) (.slice N1 nn1 nc1) ls by
   rw[hW];exact HNW.out.sub (gp_mono (by simp) fun b hb hp=>⟨hp,Below.heap_setCell _ _ _ _ (show b≠k5 from hp.2.1)⟩))
  clear hW HB hc2 hf2 hlt5 hO0 hB0;go_upto_region 3 with (fail)
  refine wp_region_S [(0,0),(1,1),(2,0),(3,4)] fun wd3 hb=>?_;replace E:=hid (E.out.trans hb);replace HR:=hid (HR.out.up hb);replace HO:=hid (HO.out.up hb);replace HNW:=hid (HNW.out.sub (gp_mono (q:=mdP (w.heap.size+2) k5 k5) hb.size fun b h1 h2=>⟨h2,hb.block b h1⟩));have hO0:=HO.out.lt;clear hb;refine WE.p 24 (.slice A n c) ?_;simp only[pX];obtain⟨A1,c1,w5,hrun,hE5,hc1,hc2,hrow⟩:=appT_nil (HK.out.up E.out) (by have:=HLC.out;have:=HF2.out;have:=HNN.out;omega) 25;refine WE.act (d:=some 25) rfl rfl (by rfl) (kexec_app (.const (.slice none 0 0)) (.tmp 24) rfl rfl rfl hrun) hE5 ?_;obtain⟨gk,cur0,hgk5,hgA,hrow2⟩:∃gk cur0,wd3.heap.size≤gk∧(n≠0→A1=some ⟨gk,0,none⟩)∧(n≠0→Box w5 gk cur0 27∧n*6≤cur0.size):=by
   by_cases hn0:n=0
   ·exact⟨wd3.heap.size,#[],Nat.le_refl _,fun h=>absurd hn0 h,fun h=>absurd hn0 h⟩
   ·obtain⟨gk,cur,h1,h2,h3,h4⟩:=hrow hn0;exact⟨gk,cur,h2,fun _=>h1,fun _=>⟨h3,h4⟩⟩
  replace E:=hid (E.out.trans hE5);replace HR:=hid (HR.out.up hE5);replace HO:=hid (HO.out.up hE5);replace HNW:=hid (HNW.out.sub (gp_mono (q:=mdP (w.heap.size+2) k5 gk) hE5.size fun b h1 h2=>⟨⟨h2.1,h2.2.1,by omega⟩,hE5.block b h1⟩));have hgk5':k5<gk:=by omega
  have HRW:=hid hrow2;have HGA:=hid hgA;have hc1':c1≤9223372036854775807:=by unfold maxLen at hc2;omega
  have HCM1:=hid hc2;clear hrun hE5 hc2 hrow hrow2 hgA hgk5 hO0;simp only[pX];refine WE.p 26 (.pointer (some ⟨k5,5,none⟩)) ?_;simp only[pX];have hc5:=HO.out.k 5;have hf5:=HO.out.free 5;have hlt5:=HO.out.lt;refine WE.store (w':=w5.setCell ⟨k5,5,none⟩ (.slice A1 n c1)) rfl rfl (by rfl) (by go_simp) (by simp) ?_;refine WE.done ?_;obtain⟨W,hW⟩:∃W,W=w5.setCell ⟨k5,5,none⟩ (.slice A1 n c1):=⟨_,rfl⟩;rw[←hW];have HRd:=hid (show RoundMd w k5 gk op g N1 nn1 nc1 nm so A1 n c1 ls ks 0 W by
   refine⟨?_,?_,?_,?_,fun hn0=>?_⟩
   ·rw[hW];exact HR.out.far (show w.heap.size+1≠k5 by omega) _
   ·rw[hW];exact HO.out.setAt 5 _
   ·rw[hW];exact HNW.out.sub (gp_mono (by simp) fun b hb hp=>⟨hp,Below.heap_setCell _ _ _ _ (show b≠k5 from hp.2.1)⟩)
   ·rw[hW];exact E.out.set' (by show w.heap.size≤k5;omega) _
   ·obtain⟨h1,h2⟩:=HRW.out hn0;exact⟨cur0,by rw[hW];exact h1.far (show gk≠k5 by omega) _,h2,fun j t hj=>by omega⟩)
  clear hW hc5 hf5 hlt5 HR HO HNW E HRW;go_wp2_with fail
  go_loopw[29] (fun i wr=>∃(k:Nat),i=.int .i64 (k:Int)∧k≤n∧Hid (RoundMd w k5 gk op g N1 nn1 nc1 nm so A1 n c1 ls ks k wr)) (fun i _=>n-(intOf i).toNat)
  case atStart=>exact⟨0,rfl,Nat.zero_le _,HRd.out⟩
  case round=>
   clear HRd;obtain⟨k,rfl,hkn,hR⟩:=hrel;obtain⟨hR,hO,hNW,hE,hrow⟩:=hR.out;have E:=hid hE;have HR:=hid hR;have HO:=hid hO;have HNW:=hid hNW;have HRW:=hid hrow;clear hR hO hNW hE hrow;rcases Nat.lt_or_ge k n with hlt|hge
   ·have hlt':(k:Int)<(n:Int):=by omega
    obtain⟨ad,u,N',nn',nc',B,d,rfl,hu,⟨c0,c1',c2,c3,c4,c5⟩,hv⟩:=(HK.out.up E.out).get hlt;have HU:=hid hu;have hvn:=hv.num;have HV1:=hid hvn.1;have HV2:=hid hvn.2;have hkf:=M.kfew_parts (M.kfews_at HFW.out HU.out);have huc:=M.kcnt_kids u;have hua:=M.kcnts_at HU.out;have HCM:=hid (show ∀w',Ext wr w'→Calls Tryz.prog 176 #[kv u.op u.g N' nn' nc' u.name u.sort B u.kids.length d,.slice B u.kids.length d] w' (GivesTN w' u) from fun w' e=>by
     have h1:=HF.out;have h2:=HF2.out;have:=IH.out (ks:=u.kids) (op:=u.op) (g:=u.g) (ls:=u.ls) (nm:=u.name) (so:=u.sort) (A0:=B) (n0:=u.kids.length) (c0:=d) (by omega) (by omega) hkf.2.2 (by omega) (by omega) (HV1.out.up e) (HV2.out.up e)
     rwa [←M.Tm.eta u] at this)
    have hA1:=HGA.out (by omega);subst hA1;obtain⟨cur,hcur,hcsz,hcel⟩:=HRW.out (by omega);have HCU:=hid hcur;have HCE:=hid hcel;obtain⟨p,hp⟩:∃p,k*6=p:=⟨_,rfl⟩;have hps:p+6≤cur.size:=by omega
    have HP:=hid hp;clear hp hu hv hvn hkf huc hua hcur hcel HRW;have HKB:=hid (show Box (wr.alloc (.cells #[.int .i64 u.op,.bool u.g,.slice N' nn' nc',str u.name,.int .i64 u.sort,.slice B u.kids.length d] 27)) wr.heap.size #[.int .i64 u.op,.bool u.g,.slice N' nn' nc',str u.name,.int .i64 u.sort,.slice B u.kids.length d] 27 from Box.new _ _ _);have hgsz:=HCU.out.lt;go_wp2_with fail
    refine wp_region_D [(0,0),(1,0),(2,0),(3,0),(4,0),(5,0),(6,1),(7,0),(8,4)] fun wd hb=>?_;have EW:=hid ((Ext.alloc wr (.cells #[.int .i64 u.op,.bool u.g,.slice N' nn' nc',str u.name,.int .i64 u.sort,.slice B u.kids.length d] 27)).trans hb);replace HKB:=hid (HKB.out.up hb);clear hb c0 c1' c2 c3 c4 c5;replace HR:=hid (HR.out.up EW.out);replace HO:=hid (HO.out.up EW.out);replace HCU:=hid (HCU.out.up EW.out);refine WE.p 34 (.pointer (some ⟨k5,5,none⟩)) ?_;simp only[pX];refine WE.q 35 (.slice (some ⟨gk,0,none⟩) n c1) rfl (fun w' hk=>by have ce:=(HO.out.up hk).k 5;go_simp) ?_;simp only[pX];refine WE.p 36 (.int .i64 (k:Int)) ?_;simp only[pX];refine WE.q 37 (kv u.op u.g N' nn' nc' u.name u.sort B u.kids.length d) rfl (fun w' hk=>by obtain⟨⟨b0,b1,b2,b3,b4,b5⟩,-,-⟩:=boxF6 (HKB.out.up hk);go_simp) ?_;simp only[pX];refine WE.p 38 (.pointer (some ⟨wr.heap.size,5,none⟩)) ?_;simp only[pX];refine WE.q 39 (.slice B u.kids.length d) rfl (fun w' hk=>by have ce:=(HKB.out.up hk).k 5;go_simp) ?_;simp only[pX];refine WE.c 40 ((HCM.out _ EW.out).mono ?_);rintro e w2 ⟨v2,rfl,hv2,hb⟩;refine⟨_,rfl,hb,?_⟩;have hgw:gk<wd.heap.size:=HCU.out.lt;have hkw:k5<wd.heap.size:=HO.out.lt;have HV3:=hid (hv2.sub (gp_mono (q:=mdP (w.heap.size+2) k5 gk) (Nat.le_refl _) fun b h1 h2=>⟨⟨by omega,by omega,by omega⟩,rfl⟩));replace EW:=hid (EW.out.trans hb);replace HR:=hid (HR.out.up hb);replace HO:=hid (HO.out.up hb);replace HCU:=hid (HCU.out.up hb);clear hb hv2 hgw hkw;simp only[pX];refine WE.q 41 (.pointer (some ⟨gk,p,none⟩)) rfl (fun w' hk=>by have hp:=HP.out;go_simp) ?_;simp only[pX];obtain⟨N2,nn2,nc2,A2,n2,c2,rfl,-,-,-,-,-,-⟩:=HV3.out.shape;obtain⟨y0,q0⟩:∃y,cur[p]?=some y:=⟨_,Array.getElem?_eq_getElem (by omega)⟩;obtain⟨y1,q1⟩:∃y,cur[p+1]?=some y:=⟨_,Array.getElem?_eq_getElem (by omega)⟩;obtain⟨y2,q2⟩:∃y,cur[p+2]?=some y:=⟨_,Array.getElem?_eq_getElem (by omega)⟩;obtain⟨y3,q3⟩:∃y,cur[p+3]?=some y:=⟨_,Array.getElem?_eq_getElem (by omega)⟩;obtain⟨y4,q4⟩:∃y,cur[p+4]?=some y:=⟨_,Array.getElem?_eq_getElem (by omega)⟩;obtain⟨y5,q5⟩:∃y,cur[p+5]?=some y:=⟨_,Array.getElem?_eq_getElem (by omega)⟩;replace q0:=HCU.out.cell q0;replace q1:=HCU.out.cell q1;replace q2:=HCU.out.cell q2;replace q3:=HCU.out.cell q3;replace q4:=HCU.out.cell q4;replace q5:=HCU.out.cell q5;have f0:=HCU.out.free p;have f1:=HCU.out.free (p+1);have f2:=HCU.out.free (p+2);have f3:=HCU.out.free (p+3);have f4:=HCU.out.free (p+4);have f5:=HCU.out.free (p+5);have hgz:=HCU.out.lt;refine WE.store (w':=put6A w2 gk p (.int .i64 u.op) (.bool u.g) (.slice N2 nn2 nc2) (str u.name) (.int .i64 u.sort) (.slice A2 n2 c2)) rfl rfl (by rfl) (by go_simp) (by simp) ?_;refine WE.done ?_;obtain⟨W,hW⟩:∃W,W=put6A w2 gk p (.int .i64 u.op) (.bool u.g) (.slice N2 nn2 nc2) (str u.name) (.int .i64 u.sort) (.slice A2 n2 c2):=⟨_,rfl⟩;rw[←hW];have HRd:=hid (show RoundMd w k5 gk op g N1 nn1 nc1 nm so (some ⟨gk,0,none⟩) n c1 ls ks (k+1) W by
     have hG:∀b,b<w2.heap.size→mdP (w.heap.size+2) k5 gk b→W.heap[b]?=w2.heap[b]?:=fun b _ hp=>by rw[hW];exact put6A_far hp.2.2
     have hGS:Sub (gp (mdP (w.heap.size+2) k5 gk) w2) (gp (mdP (w.heap.size+2) k5 gk) W):=gp_mono (by rw[hW,put6A_size];exact Nat.le_refl _) fun b h1 h2=>⟨h2,hG b h1 h2⟩;have hGE:Sub (gp (mdP (w.heap.size+2) k5 gk) wr) (gp (mdP (w.heap.size+2) k5 gk) w2):=gp_mono EW.out.size fun b h1 h2=>⟨h2,EW.out.block b h1⟩;refine⟨?_,?_,HNW.out.sub (hGE.trans hGS),?_,fun _=>?_⟩
     ·rw[hW];exact(put6A_far (by omega)).trans HR.out
     ·rw[hW];exact(put6A_far (by omega)).trans HO.out
     ·rw[hW];exact put6A_ext (E.out.trans EW.out) (by omega)
     ·refine⟨_,by rw[hW];exact put6A_box HCU.out,by rw[cur6_size];omega,fun j t hj ht=>?_⟩;have hpk:=HP.out;rcases Nat.lt_or_ge j k with hjk|hjk
      ·exact((HCE.out j t hjk ht).sub (hGE.trans hGS)).off (by omega)
      ·obtain rfl:j=k:=by omega
       obtain rfl:t=u:=by rw[HU.out] at ht;injection ht with ht;exact ht.symm
       rw[hpk];obtain⟨z0,z1,z2,z3,z4,z5⟩:=cur6_at (x0:=.int .i64 t.op) (x1:=.bool t.g) (x2:=.slice N2 nn2 nc2) (x3:=str t.name) (x4:=.int .i64 t.sort) (x5:=.slice A2 n2 c2) hps;exact⟨N2,nn2,nc2,_,⟨z0,z1,z2,z3,z4,z5⟩,HV3.out.num.1.sub hGS,HV3.out.num.2.sub hGS⟩)
    clear hW q0 q1 q2 q3 q4 q5 f0 f1 f2 f3 f4 f5 hgz HR HO HNW E EW HV3 HCU HCE HKB;go_wp2_with fail
    go_roundw
    case rel=>exact⟨k+1,by simp,by omega,HRd.out⟩
    case measure=>simp[intOf];omega
   ·obtain rfl:k=n:=by omega
    obtain⟨⟨b0,b1,b2,b3,b4,b5⟩,-,hzo⟩:=boxF6 HO.out;obtain⟨⟨r0,r1,r2,r3,r4,r5⟩,⟨f0,f1,f2,f3,f4,f5⟩,hzr⟩:=boxF6 HR.out;go_wp2_with fail
    refine bodyPost_ret (v:=kv op g N1 nn1 nc1 nm so A1 k c1) (by simp[results,Tryz.results176,go_sem,r0,r1,r2,r3,r4,r5,hzr]) rfl ?_;have hGS:Sub (gp (mdP (w.heap.size+2) k5 gk) wr) (gp (fun b=>w.heap.size≤b) (put6 wr (w.heap.size+1) (.int .i64 op) (.bool g) (.slice N1 nn1 nc1) (str nm) (.int .i64 so) (.slice A1 k c1))):=
     gp_mono (by simp) fun b h1 h2=>⟨by have:=h2.1;omega,put6_kept.2 b h1 (by simp;have:=h2.1;omega)⟩
    refine⟨_,rfl,⟨N1,nn1,nc1,A1,c1,by rw[←HNN.out];rfl,HNW.out.sub hGS,?_⟩,put6_ext E.out (by omega)⟩;show Tms _ ks (.slice A1 ks.length c1);rw[HNN.out];refine Tms.mk_ ⟨_,_,_,rfl,HNN.out.symm,hc1,HCM1.out,fun hne=>?_⟩;have hk0:k≠0:=fun e=>hne (List.eq_nil_of_length_eq_zero (HNN.out.trans e));obtain⟨cur,h1,h2,h3⟩:=HRW.out hk0;refine⟨_,HGA.out hk0,by rw[gp_size,(show (put6 wr (w.heap.size+1) (.int .i64 op) (.bool g) (.slice N1 nn1 nc1) (str nm) (.int .i64 so) (.slice A1 k c1)).heap.size=wr.heap.size by simp)];exact h1.lt,fun j t hj=>?_⟩;have hjk:j<k:=by
     obtain⟨h,_⟩:=List.getElem?_eq_some_iff.1 hj;rw[HNN.out] at h;exact h
    obtain⟨N,nn,nc,v,⟨z0,z1,z2,z3,z4,z5⟩,hn,hkd⟩:=h3 j t hjk hj;have hbx:Box (put6 wr (w.heap.size+1) (.int .i64 op) (.bool g) (.slice N1 nn1 nc1) (str nm) (.int .i64 so) (.slice A1 k c1)) gk cur 27:=h1.kept put6_kept (by simp;omega);have key:∀o x,cur[o]?=some x→(gp (fun b=>w.heap.size≤b) (put6 wr (w.heap.size+1) (.int .i64 op) (.bool g) (.slice N1 nn1 nc1) (str nm) (.int .i64 so) (.slice A1 k c1))).cell? ⟨gk,o,none⟩=some x:=fun o x hx=>gp_cell.2 ⟨by show w.heap.size≤gk;omega,hbx.cell hx⟩;rw[M.Tm.eta t,Addr.add_lit,Nat.zero_add];refine tmAt_mk.2 ⟨N,nn,nc,v,⟨⟨key _ _ z0,?_,?_⟩,?_,?_,?_⟩,hn.sub hGS,hkd.sub hGS⟩
    ·rw[Addr.add_lit];exact key _ _ z1
    ·rw[Addr.add_lit];exact key _ _ z2
    ·rw[Addr.add_lit];exact key _ _ z3
    ·rw[Addr.add_lit];exact key _ _ z4
    ·rw[Addr.add_lit];exact key _ _ z5
theorem new_putG {w1 w2:World}{t:M.Tm}{v:Value}{k B:Nat}{x0 x1 x2 x3 x4 x5:Value}(h:IsTm (gp (fun b=>w1.heap.size≤b) w2) t v)(hk:k<w1.heap.size)(hB:B≤w1.heap.size): IsTm (gp (fun b=>B≤b) (put6 w2 k x0 x1 x2 x3 x4 x5)) t v:=
 h.sub (gp_mono (q:=fun b=>B≤b) (w':=put6 w2 k x0 x1 x2 x3 x4 x5) (by simp) fun b h1 h2=>⟨by omega,put6_kept.2 b h1 (by simp;omega)⟩)
theorem new_put {w1 w2:World}{t:M.Tm}{v:Value}{k:Nat}{x0 x1 x2 x3 x4 x5:Value}(h:IsTm (gp (fun b=>w1.heap.size≤b) w2) t v)(hk:k<w1.heap.size): IsTm (put6 w2 k x0 x1 x2 x3 x4 x5) t v:=
 (new_putG h hk (Nat.le_refl _)).sub (gp_sub _ _)
def GivesTmN (w:World)(r:M.Tm×Int)(e:Ending)(w':World): Prop:=∃v,e=.returned (.tuple #[v,.int .i64 r.2])∧IsTm (gp (fun b=>w.heap.size≤b) w') r.1 v∧Ext w w'
def M.kbound (t:M.Tm): M.Tm×Int:=if 400<1+M.kcnts t.kids then (M.K0,11) else (t,0)
set_option maxHeartbeats 8000000 in
theorem bounded_n {ks:List M.Tm}{op:Int}{g:Bool}{ls:List Nat}{nm:List UInt8}{so:Int}{N0:Option Addr}{nn0 nc0:Nat}{A0:Option Addr}{n0 c0:Nat}{v:Value}{w:World}(hfew:M.kfews ks=true)(hnm:nm.length≤1000000000000)(hls:ls.length≤1000000)
 (hn:LNum w (.slice N0 nn0 nc0) ls) (hk:Tms w ks v):Calls Tryz.prog 214 #[kv op g N0 nn0 nc0 nm so A0 n0 c0,v] w (GivesTmN w (M.kbound (.mk op g ls nm so ks))):=by
 obtain⟨A,c,rfl⟩:=hk.shape;obtain⟨hl1,hl2,hl3⟩:=hk.le;obtain⟨n,hnn⟩:∃n,ks.length=n:=⟨_,rfl⟩;rw[hnn] at hk ⊢;obtain⟨m,hm⟩:∃m,min (1+M.kcnts ks) 401=m:=⟨_,rfl⟩;have HC:=hid (show ∀w',Ext w w'→Calls Tryz.prog 133 #[.int .i64 1,.slice A n c] w' (GivesI w' (m:Int)) from fun w' e=>hm▸counted_any (m:=1) (hk.up e) (by omega));have HMD:=hid (show M.kcnts ks≤1000→∀w',Ext w w'→Calls Tryz.prog 176 #[kv op g N0 nn0 nc0 nm so A0 n0 c0,.slice A n c] w' (GivesTN w' (.mk op g ls nm so ks)) from fun hc w' e=>made_n (M.kcnts ks+1) (Nat.lt_succ_self _) hc hfew hnm hls (hn.up e) (hk.up e));have HB:=hid (show Box ((w.alloc (.cells #[.int .i64 op,.bool g,.slice N0 nn0 nc0,str nm,.int .i64 so,.slice A0 n0 c0] 27)).alloc (.cells zero6 27)) w.heap.size #[.int .i64 op,.bool g,.slice N0 nn0 nc0,str nm,.int .i64 so,.slice A0 n0 c0] 27 from(Box.new w _ _).alloc _);have HR:=hid (show Box ((w.alloc (.cells #[.int .i64 op,.bool g,.slice N0 nn0 nc0,str nm,.int .i64 so,.slice A0 n0 c0] 27)).alloc (.cells zero6 27)) (w.heap.size+1) zero6 27 from Box.at_ (w:=w.alloc (.cells #[.int .i64 op,.bool g,.slice N0 nn0 nc0,str nm,.int .i64 so,.slice A0 n0 c0] 27)) _ _ (by simp));obtain⟨T,hT⟩:∃T,M.Tm.mk op g ls nm so ks=T:=⟨_,rfl⟩;have hTk:T.kids=ks:=by rw[←hT];rfl
 rw[hT] at HMD ⊢
 by_cases hc:400<1+M.kcnts ks
 ·have HRR:=hid (show M.kbound T=(M.K0,11) by unfold M.kbound;rw[hTk,if_pos hc]);have hm4:400<(m:Int):=by omega
  clear hfew hnm hls hn hk hl1 hl2 hl3 hnn hm HMD hT hTk hc;go_enter Tryz.func214,Tryz.ntmps214
  go_wp2_with fail
  refine(HC.out _ (alloc_two w _ _)).mono ?_;rintro e w1 ⟨rfl,hb⟩;obtain⟨⟨r0,r1,r2,r3,r4,r5⟩,⟨f0,f1,f2,f3,f4,f5⟩,hzr⟩:=boxF6 (HR.out.up hb);have E:=hid ((alloc_two w _ _).trans hb);clear hb;go_wp2_with fail
  refine bodyPost_ret (v:=.tuple #[kv 0 false none 0 0 [] 0 none 0 0,.int .i64 11]) (by simp[results,Tryz.results214,go_sem,r0,r1,r2,r3,r4,r5,hzr]) rfl ?_;rw[HRR.out];exact⟨_,rfl,IsTm.zero _,put6_ext E.out (by omega)⟩
 ·have HRR:=hid (show M.kbound T=(T,0) by unfold M.kbound;rw[hTk,if_neg hc]);have hm4:decide (400<(m:Int))=false:=by simp;omega
  replace HMD:=hid (HMD.out (by omega));clear hfew hnm hls hn hk hl1 hl2 hl3 hnn hm hT hTk hc;go_enter Tryz.func214,Tryz.ntmps214
  go_wp2_with fail
  refine(HC.out _ (alloc_two w _ _)).mono ?_;rintro e w1 ⟨rfl,hb⟩;obtain⟨⟨b0,b1,b2,b3,b4,b5⟩,-,hzb⟩:=boxF6 (HB.out.up hb);replace HR:=hid (HR.out.up hb);have E:=hid ((alloc_two w _ _).trans hb);clear hb;go_wp2_with fail
  refine(HMD.out _ E.out).mono ?_;rintro e w2 ⟨v2,rfl,hv,hb⟩;have hlt:=HR.out.lt;have hws:w.heap.size≤w1.heap.size:=E.out.size;have HV:=hid (fun x0 x1 x2 x3 x4 x5=>new_putG (B:=w.heap.size) (x0:=x0) (x1:=x1) (x2:=x2) (x3:=x3) (x4:=x4) (x5:=x5) hv hlt hws);obtain⟨N2,nn2,nc2,A2,n2,c2,rfl,-,-,-,-,-,-⟩:=hv.shape;obtain⟨⟨r0,r1,r2,r3,r4,r5⟩,⟨f0,f1,f2,f3,f4,f5⟩,hzr⟩:=boxF6 (HR.out.up hb);replace E:=hid (E.out.trans hb);clear hb hv hlt hws b0 b1 b2 b3 b4 b5 hzb;go_wp2_with fail
  refine bodyPost_ret (v:=.tuple #[kv T.op T.g N2 nn2 nc2 T.name T.sort A2 n2 c2,.int .i64 0]) (by simp[results,Tryz.results214,go_sem,r0,r1,r2,r3,r4,r5,hzr]) rfl ?_;rw[HRR.out];exact⟨_,rfl,HV.out _ _ _ _ _ _,put6_ext E.out (by omega)⟩
theorem made_none {op:Int}{g:Bool}{ls:List Nat}{nm:List UInt8}{so:Int}{N0:Option Addr}{nn0 nc0:Nat}{w:World}(hnm:nm.length≤1000000000000)(hls:ls.length≤1000000)(hn:LNum w (.slice N0 nn0 nc0) ls):
 Calls Tryz.prog 176 #[kv op g N0 nn0 nc0 nm so none 0 0,.slice none 0 0] w (GivesTN w (.mk op g ls nm so [])):=
 made_n 1 (by simp[M.kcnts]) (by simp[M.kcnts]) (by simp[M.kfews]) hnm hls hn (Tms.nil w)
set_option maxHeartbeats 8000000 in
theorem num_t {Z:Int}{k:Nat}{v:Value}{w:World}(h:Worth w v Z k)(hk:k≤1000000): Calls Tryz.prog 136 #[v] w (GivesT1 w (M.knumT Z)):=by
 obtain⟨g,N,nn,nc,ls,rfl,hn,hl,rfl⟩:=h;obtain⟨q,hq⟩:∃q,M.isZ g ls=q:=⟨_,rfl⟩;have HI:=hid (show ∀w',Ext w w'→Calls Tryz.prog 146 #[.agg #[.bool g,.slice N nn nc]] w' (GivesB w' q) from fun w' e=>wIs_any (Num.keep hn e e.size) hq);have HB:=hid (show Box ((w.alloc (.cells #[.bool g,.slice N nn nc] 24)).alloc (.cells zero6 27)) w.heap.size #[.bool g,.slice N nn nc] 24 from(Box.new w _ _).alloc _);have HR:=hid (show Box ((w.alloc (.cells #[.bool g,.slice N nn nc] 24)).alloc (.cells zero6 27)) (w.heap.size+1) zero6 27 from Box.at_ (w:=w.alloc (.cells #[.bool g,.slice N nn nc] 24)) _ _ (by simp));cases q
 ·have hr:=hid (show M.knumT (M.zv g ls)=.mk 1 false [] [] 2 [] by
   rw[M.zv_off hq];exact M.knumT0)
  rw[hr.out];have HM:=hid (fun w'=>made_none (op:=1) (g:=false) (ls:=[]) (nm:=[]) (so:=2) (by simp) (by simp) (LNum.nil w'));clear hn hl hq;go_enter Tryz.func136,Tryz.ntmps136
  go_wp2_with fail
  refine(HI.out _ (alloc_two w _ _)).mono ?_;rintro e w1 ⟨rfl,hb⟩;replace HB:=hid (HB.out.up hb);replace HR:=hid (HR.out.up hb);have E:=hid ((alloc_two w _ _).trans hb);clear hb;have b0:=HB.out.k 0;have b1:=HB.out.k 1;have f0:=HB.out.free 0;have f1:=HB.out.free 1;have hzb:=HB.out.lt;go_wp2_with fail
  refine(HM.out _).mono ?_;rintro e w2 ⟨v2,rfl,hv,hb⟩;replace HR:=hid (show Box ((w1.setCell ⟨w.heap.size,0,none⟩ (.bool false)).setCell ⟨w.heap.size,1,none⟩ (.slice none 0 0)) (w.heap.size+1) zero6 27 from(HR.out.far (show w.heap.size+1≠w.heap.size by omega) _).far (show w.heap.size+1≠w.heap.size by omega) _);have hlt:=HR.out.lt;have HV:=hid (fun x0 x1 x2 x3 x4 x5=>new_put (x0:=x0) (x1:=x1) (x2:=x2) (x3:=x3) (x4:=x4) (x5:=x5) hv hlt);obtain⟨N2,nn2,nc2,A2,n2,c2,rfl,-,-,-,-,-,-⟩:=hv.shape;obtain⟨⟨r0,r1,r2,r3,r4,r5⟩,⟨g0,g1,g2,g3,g4,g5⟩,hzr⟩:=boxF6 (HR.out.up hb);replace E:=hid (((E.out.set' (show w.heap.size≤w.heap.size by omega) _).set' (show w.heap.size≤w.heap.size by omega) _).trans hb);clear hb hv hlt b0 b1 f0 f1 hzb;go_wp2_with fail
  refine bodyPost_ret (v:=kv _ _ N2 nn2 nc2 _ _ A2 n2 c2) (by simp[results,Tryz.results136,go_sem,r0,r1,r2,r3,r4,r5,hzr];exact⟨rfl,rfl,rfl,rfl⟩) rfl ?_;exact⟨_,rfl,HV.out _ _ _ _ _ _,put6_ext E.out (by omega)⟩
 ·have hr:=hid (show M.knumT (M.zv g ls)=.mk 1 g ls [] 2 [] by
   show M.Tm.mk 1 (decide (M.zv g ls<0)) (M.limbs (M.zv g ls).natAbs) [] 2 []=_;rw[M.zv_lt hq,M.limbs_zv hq])
  rw[hr.out];have HM:=hid (show ∀w',Ext w w'→Calls Tryz.prog 176 #[kv 1 g N nn nc [] 2 none 0 0,.slice none 0 0] w' (GivesTN w' (.mk 1 g ls [] 2 [])) from fun w' e=>made_none (by simp) (by omega) (Num.keep hn e e.size));clear hn hl hq;go_enter Tryz.func136,Tryz.ntmps136
  go_wp2_with fail
  refine(HI.out _ (alloc_two w _ _)).mono ?_;rintro e w1 ⟨rfl,hb⟩;replace HB:=hid (HB.out.up hb);replace HR:=hid (HR.out.up hb);have E:=hid ((alloc_two w _ _).trans hb);clear hb;have b0:=HB.out.k 0;have b1:=HB.out.k 1;go_wp2_with fail
  refine(HM.out _ E.out).mono ?_;rintro e w2 ⟨v2,rfl,hv,hb⟩;have hlt:=HR.out.lt;have HV:=hid (fun x0 x1 x2 x3 x4 x5=>new_put (x0:=x0) (x1:=x1) (x2:=x2) (x3:=x3) (x4:=x4) (x5:=x5) hv hlt);obtain⟨N2,nn2,nc2,A2,n2,c2,rfl,-,-,-,-,-,-⟩:=hv.shape;obtain⟨⟨r0,r1,r2,r3,r4,r5⟩,⟨g0,g1,g2,g3,g4,g5⟩,hzr⟩:=boxF6 (HR.out.up hb);replace E:=hid (E.out.trans hb);clear hb hv hlt b0 b1;go_wp2_with fail
  refine bodyPost_ret (v:=kv _ _ N2 nn2 nc2 _ _ A2 n2 c2) (by simp[results,Tryz.results136,go_sem,r0,r1,r2,r3,r4,r5,hzr];exact⟨rfl,rfl,rfl,rfl⟩) rfl ?_;exact⟨_,rfl,HV.out _ _ _ _ _ _,put6_ext E.out (by omega)⟩
set_option maxHeartbeats 16000000 in
set_option maxRecDepth 100000 in
theorem make_tn {op:Int}{l:List M.Tm}{v:Value}{w:World}(h:Tms w l v)(hf:M.kfews l=true)(htab:Tab w): Calls Tryz.prog 177 #[.int .i64 op,v] w (GivesTmN w (M.kmake op l)):=by
 obtain⟨A,c,rfl⟩:=h.shape;obtain⟨hl1,hl2,hl3⟩:=h.le;have HC:=hid (show ∀a b c1 d e1 w',Calls Tryz.prog 172 #[rv a b c1 d e1,.slice A l.length c] w' (GivesB w' (decide (a≤(l.length:Int))&&decide ((l.length:Int)≤b))) from fun a b c1 d e1 w'=>counts_n a b c1 d e1 A l.length c w');have HS:=hid (show 0<l.length→∀a b c1 d e1 w',Ext w w'→Calls Tryz.prog 173 #[rv a b c1 d e1,.slice A l.length c] w' (GivesB w' (decide ((M.kat l 0).sort=M.meantM c1 l)&&l.tail.all fun t=>decide (t.sort=M.meantM d l))) from fun hp a b c1 d e1 w' e=>sorted_n a b c1 d e1 (h.up e) hp);have HO:=hid (show 0<l.length→∀a b c1 d e1 w',Ext w w'→Calls Tryz.prog 175 #[rv a b c1 d e1,.slice A l.length c] w' (GivesN w' (M.meantM e1 l)) from fun hp a b c1 d e1 w' e=>own_n a b c1 d e1 (h.up e) hp);have HL:=hid (show 5≤op∧op≤22→M.kargs op l.length=true→∀w',Ext w w'→Calls Tryz.prog 174 #[.int .i64 op,.slice A l.length c] w' (GivesN w' (M.klin op l)) from fun h1 h2 w' e=>linear_n h1 (h.up e) h2);have HA:=hid (show ∀w',Ext w w'→Calls Tryz.prog 213 #[.slice A l.length c] w' (GivesB w' (M.kIss l)) from fun w' e=>all_t (h.up e) hf (htab.up e));have HD:=hid (show ∀op' so w',Ext w w'→Calls Tryz.prog 214 #[kv op' false none 0 0 [] so none 0 0,.slice A l.length c] w' (GivesTmN w' (M.kbound (.mk op' false [] [] so l))) from fun op' so w' e=>bounded_n hf (by simp) (by simp) (LNum.nil _) (h.up e));have HU:=hid (fun w'=>ruled_n op w');have HT:=hid htab;obtain⟨n,hn'⟩:∃n,l.length=n:=⟨_,rfl⟩;obtain⟨R,hR⟩:∃R,M.kmake op l=R:=⟨_,rfl⟩;have hR2:R=(if op<5∨22<op then (M.K0,10) else if M.kargs op n=false then (M.K0,18) else if M.kIss l=false then (M.K0,10) else if M.kcheck op l≠0 then (M.K0,M.kcheck op l) else (.mk op false [] [] (M.kres op l) l,0)):=by rw[←hR,←hn'];rfl
 rw[hR];rw[hn'] at HC HS HO HL HA HD hl2 ⊢;have HR:=hid (Box.new w zero6 27);have E:=hid (Ext.alloc w (.cells zero6 27));clear h hf htab hl1 hR
 by_cases hop:5≤op∧op≤22
 case neg=>
  rw[decide_eq_false hop] at HU;have HRR:=hid (show R=(M.K0,10) by rw[hR2,if_pos (by omega)]);clear hop hR2 hn';go_enter Tryz.func177,Tryz.ntmps177
  go_wp2_with fail
  refine(HU.out _).mono ?_;rintro e w1 ⟨rfl,hb⟩;replace E:=hid (E.out.trans hb);replace HR:=hid (HR.out.up hb);clear hb;obtain⟨⟨r0,r1,r2,r3,r4,r5⟩,⟨f0,f1,f2,f3,f4,f5⟩,hzr⟩:=boxF6 HR.out;go_wp2_with fail
  refine bodyPost_ret (v:=.tuple #[kv 0 false none 0 0 [] 0 none 0 0,.int .i64 10]) (by simp[results,Tryz.results177,go_sem,r0,r1,r2,r3,r4,r5,hzr]) rfl ?_;rw[HRR.out];exact⟨_,rfl,IsTm.zero _,put6_ext E.out (by omega)⟩
 case pos=>
 rw[decide_eq_true hop] at HU;rw[if_neg (by omega)] at hR2;obtain⟨j,hj⟩:∃j:Nat,op=(j:Int):=⟨op.toNat,by omega⟩;obtain⟨r0,hr0⟩:∃r,M.rl op 0=r:=⟨_,rfl⟩;obtain⟨r1,hr1⟩:∃r,M.rl op 1=r:=⟨_,rfl⟩;obtain⟨r2,hr2⟩:∃r,M.rl op 2=r:=⟨_,rfl⟩;obtain⟨r3,hr3⟩:∃r,M.rl op 3=r:=⟨_,rfl⟩;obtain⟨r4,hr4⟩:∃r,M.rl op 4=r:=⟨_,rfl⟩;have RT:=hid (show ∀w',Ext w w'→w'.cell? ⟨0,j*5,none⟩=some (.int .i64 r0)∧w'.cell? ⟨0,j*5+1,none⟩=some (.int .i64 r1)∧w'.cell? ⟨0,j*5+2,none⟩=some (.int .i64 r2)∧w'.cell? ⟨0,j*5+3,none⟩=some (.int .i64 r3)∧w'.cell? ⟨0,j*5+4,none⟩=some (.int .i64 r4) from fun w' e=>by
  rw[←hr0,←hr1,←hr2,←hr3,←hr4];exact(HT.out.up e).five hop (by omega))
 obtain⟨qa,hqa⟩:∃q,M.kargs op n=q:=⟨_,rfl⟩;have HCC:=hid (show ∀w',Calls Tryz.prog 172 #[rv r0 r1 r2 r3 r4,.slice A n c] w' (GivesB w' qa) from fun w'=>by
  have h1:=HC.out r0 r1 r2 r3 r4 w';have h2:=M.counts_eq hop (show n≤9223372036854775807 by omega);rw[hr0,hr1,hqa] at h2
  rwa [h2] at h1)
 rw[hqa] at hR2;have hjlt:(j:Int)<23:=by omega
 have hjlt2:j<23:=by omega
 have hj5:5≤j:=by omega
 obtain⟨qi,hqi⟩:∃q,M.kIss l=q:=⟨_,rfl⟩;rw[hqi] at HA hR2;cases qa
 case false=>
  have HRR:=hid (show R=(M.K0,18) by rw[hR2,if_pos rfl]);subst hj;clear hR2 hop HC HS HO HL HT HD HA hqa hqi hr0 hr1 hr2 hr3 hr4 hn';go_enter Tryz.func177,Tryz.ntmps177
  go_wp2_with fail
  refine(HU.out _).mono ?_;rintro e w1 ⟨rfl,hb⟩;replace E:=hid (E.out.trans hb);replace HR:=hid (HR.out.up hb);clear hb;obtain⟨q0,q1,q2,q3,q4⟩:=RT.out _ E.out;go_wp2_with fail
  refine(HCC.out _).mono ?_;rintro e w1 ⟨rfl,hb⟩;replace E:=hid (E.out.trans hb);replace HR:=hid (HR.out.up hb);clear hb;obtain⟨⟨r0,r1,r2,r3,r4,r5⟩,⟨f0,f1,f2,f3,f4,f5⟩,hzr⟩:=boxF6 HR.out;go_wp2_with fail
  refine bodyPost_ret (v:=.tuple #[kv 0 false none 0 0 [] 0 none 0 0,.int .i64 18]) (by simp[results,Tryz.results177,go_sem,r0,r1,r2,r3,r4,r5,hzr]) rfl ?_;rw[HRR.out];exact⟨_,rfl,IsTm.zero _,put6_ext E.out (by omega)⟩
 case true=>
 rw[if_neg (by decide)] at hR2;obtain⟨hnp,-,-⟩:=kargs_len hqa;cases qi
 case false=>
  have HRR:=hid (show R=(M.K0,10) by rw[hR2,if_pos rfl]);subst hj;clear hR2 hop HC HS HO HL HT HD hqa hqi hr0 hr1 hr2 hr3 hr4 hn';go_enter Tryz.func177,Tryz.ntmps177
  go_wp2_with fail
  refine(HU.out _).mono ?_;rintro e w1 ⟨rfl,hb⟩;replace E:=hid (E.out.trans hb);replace HR:=hid (HR.out.up hb);clear hb;obtain⟨q0,q1,q2,q3,q4⟩:=RT.out _ E.out;go_wp2_with fail
  refine(HCC.out _).mono ?_;rintro e w1 ⟨rfl,hb⟩;replace E:=hid (E.out.trans hb);replace HR:=hid (HR.out.up hb);clear hb;go_wp2_with fail
  refine(HA.out _ E.out).mono ?_;rintro e w1 ⟨rfl,hb⟩;replace E:=hid (E.out.trans hb);replace HR:=hid (HR.out.up hb);clear hb;obtain⟨⟨r0,r1,r2,r3,r4,r5⟩,⟨f0,f1,f2,f3,f4,f5⟩,hzr⟩:=boxF6 HR.out;go_wp2_with fail
  refine bodyPost_ret (v:=.tuple #[kv 0 false none 0 0 [] 0 none 0 0,.int .i64 10]) (by simp[results,Tryz.results177,go_sem,r0,r1,r2,r3,r4,r5,hzr]) rfl ?_;rw[HRR.out];exact⟨_,rfl,IsTm.zero _,put6_ext E.out (by omega)⟩
 case true=>
 rw[if_neg (by decide)] at hR2;obtain⟨qs,hqs⟩:∃q,M.ksorted op l=q:=⟨_,rfl⟩;have HSS:=hid (show ∀w',Ext w w'→Calls Tryz.prog 173 #[rv r0 r1 r2 r3 r4,.slice A n c] w' (GivesB w' qs) from fun w' e=>by
  have h1:=HS.out (by omega) r0 r1 r2 r3 r4 w' e;have h2:=M.sorted_eq hop (l:=l) (by rw[hn'];exact hqa);unfold M.rsorted at h2;rw[hr2,hr3,hqs] at h2
  rwa [h2] at h1)
 cases qs
 case false=>
  have HRR:=hid (show R=(M.K0,17) by
   have h17:M.kcheck op l=17:=by unfold M.kcheck;rw[if_pos hqs]
   rw[hR2,h17,if_pos (by decide)])
  subst hj;clear hR2 hop HC HS HO HL HT HD hqa hqi hqs hr0 hr1 hr2 hr3 hr4 hn';go_enter Tryz.func177,Tryz.ntmps177
  go_wp2_with fail
  refine(HU.out _).mono ?_;rintro e w1 ⟨rfl,hb⟩;replace E:=hid (E.out.trans hb);replace HR:=hid (HR.out.up hb);clear hb;obtain⟨q0,q1,q2,q3,q4⟩:=RT.out _ E.out;go_wp2_with fail
  refine(HCC.out _).mono ?_;rintro e w1 ⟨rfl,hb⟩;replace E:=hid (E.out.trans hb);replace HR:=hid (HR.out.up hb);clear hb;go_wp2_with fail
  refine(HA.out _ E.out).mono ?_;rintro e w1 ⟨rfl,hb⟩;replace E:=hid (E.out.trans hb);replace HR:=hid (HR.out.up hb);clear hb;obtain⟨q0,q1,q2,q3,q4⟩:=RT.out _ E.out;go_wp2_with fail
  refine(HSS.out _ E.out).mono ?_;rintro e w1 ⟨rfl,hb⟩;replace E:=hid (E.out.trans hb);replace HR:=hid (HR.out.up hb);clear hb;obtain⟨⟨r0,r1,r2,r3,r4,r5⟩,⟨f0,f1,f2,f3,f4,f5⟩,hzr⟩:=boxF6 HR.out;go_wp2_with fail
  refine bodyPost_ret (v:=.tuple #[kv 0 false none 0 0 [] 0 none 0 0,.int .i64 17]) (by simp[results,Tryz.results177,go_sem,r0,r1,r2,r3,r4,r5,hzr]) rfl ?_;rw[HRR.out];exact⟨_,rfl,IsTm.zero _,put6_ext E.out (by omega)⟩
 case true=>
 obtain⟨lin,hlin0⟩:∃q,M.klin op l=q:=⟨_,rfl⟩;have HLL:=hid (show ∀w',Ext w w'→Calls Tryz.prog 174 #[.int .i64 op,.slice A n c] w' (GivesN w' lin) from fun w' e=>hlin0▸HL.out hop hqa w' e);have hchk:M.kcheck op l=if lin≠0 then lin else if 400<1+M.kcnts l then 11 else 0:=by unfold M.kcheck;rw[if_neg (by rw[hqs];decide),hlin0]
 by_cases hlz:lin=0
 case neg=>
  have HRR:=hid (show R=(M.K0,lin) by rw[hR2,hchk,if_pos hlz,if_pos hlz]);have hlin:(lin==0)=false:=by simpa using hlz
  subst hj;clear hR2 hop HC HS HO HL HT HD hqa hqi hqs hr0 hr1 hr2 hr3 hr4 hn' hlin0 hlz hchk;go_enter Tryz.func177,Tryz.ntmps177
  go_wp2_with fail
  refine(HU.out _).mono ?_;rintro e w1 ⟨rfl,hb⟩;replace E:=hid (E.out.trans hb);replace HR:=hid (HR.out.up hb);clear hb;obtain⟨q0,q1,q2,q3,q4⟩:=RT.out _ E.out;go_wp2_with fail
  refine(HCC.out _).mono ?_;rintro e w1 ⟨rfl,hb⟩;replace E:=hid (E.out.trans hb);replace HR:=hid (HR.out.up hb);clear hb;go_wp2_with fail
  refine(HA.out _ E.out).mono ?_;rintro e w1 ⟨rfl,hb⟩;replace E:=hid (E.out.trans hb);replace HR:=hid (HR.out.up hb);clear hb;obtain⟨q0,q1,q2,q3,q4⟩:=RT.out _ E.out;go_wp2_with fail
  refine(HSS.out _ E.out).mono ?_;rintro e w1 ⟨rfl,hb⟩;replace E:=hid (E.out.trans hb);replace HR:=hid (HR.out.up hb);clear hb;go_wp2_with fail
  refine(HLL.out _ E.out).mono ?_;rintro e w1 ⟨rfl,hb⟩;replace E:=hid (E.out.trans hb);replace HR:=hid (HR.out.up hb);clear hb;obtain⟨⟨r0,r1,r2,r3,r4,r5⟩,⟨f0,f1,f2,f3,f4,f5⟩,hzr⟩:=boxF6 HR.out;go_wp2_with fail
  refine bodyPost_ret (v:=.tuple #[kv 0 false none 0 0 [] 0 none 0 0,.int .i64 lin]) (by simp[results,Tryz.results177,go_sem,r0,r1,r2,r3,r4,r5,hzr]) rfl ?_;rw[HRR.out];exact⟨_,rfl,IsTm.zero _,put6_ext E.out (by omega)⟩
 case pos=>
 subst hlz;obtain⟨own,hown⟩:∃q,M.kres op l=q:=⟨_,rfl⟩;have HOO:=hid (show ∀w',Ext w w'→Calls Tryz.prog 175 #[rv r0 r1 r2 r3 r4,.slice A n c] w' (GivesN w' own) from fun w' e=>by
  have h1:=HO.out (by omega) r0 r1 r2 r3 r4 w' e;have h2:=M.own_eq hop (l:=l) (by rw[hn'];exact hqa) hqs;rw[hr4,hown] at h2
  rwa [h2] at h1)
 have HRR:=hid (show M.kbound (.mk op false [] [] own l)=R by
  rw[if_neg (by decide)] at hchk;rw[hR2,hchk,hown];unfold M.kbound;show (if 400<1+M.kcnts l then _ else _)=_
  by_cases h4:400<1+M.kcnts l
  ·rw[if_pos h4,if_pos h4,if_pos (by decide)]
  ·rw[if_neg h4,if_neg h4,if_neg (by decide)])
 replace HD:=hid (show ∀w',Ext w w'→Calls Tryz.prog 214 #[kv op false none 0 0 [] own none 0 0,.slice A n c] w' (GivesTmN w' R) from fun w' e=>HRR.out▸HD.out op own w' e);subst hj;clear hR2 hop HC HS HO HL HT hqa hqi hqs hr0 hr1 hr2 hr3 hr4 hn' hlin0 hchk hown HRR;go_enter Tryz.func177,Tryz.ntmps177
 go_wp2_with fail
 refine(HU.out _).mono ?_;rintro e w1 ⟨rfl,hb⟩;replace E:=hid (E.out.trans hb);replace HR:=hid (HR.out.up hb);clear hb;obtain⟨q0,q1,q2,q3,q4⟩:=RT.out _ E.out;go_wp2_with fail
 refine(HCC.out _).mono ?_;rintro e w1 ⟨rfl,hb⟩;replace E:=hid (E.out.trans hb);replace HR:=hid (HR.out.up hb);clear hb;go_wp2_with fail
 refine(HA.out _ E.out).mono ?_;rintro e w1 ⟨rfl,hb⟩;replace E:=hid (E.out.trans hb);replace HR:=hid (HR.out.up hb);clear hb;obtain⟨q0,q1,q2,q3,q4⟩:=RT.out _ E.out;go_wp2_with fail
 refine(HSS.out _ E.out).mono ?_;rintro e w1 ⟨rfl,hb⟩;replace E:=hid (E.out.trans hb);replace HR:=hid (HR.out.up hb);clear hb;go_wp2_with fail
 refine(HLL.out _ E.out).mono ?_;rintro e w1 ⟨rfl,hb⟩;replace E:=hid (E.out.trans hb);replace HR:=hid (HR.out.up hb);clear hb;obtain⟨q0,q1,q2,q3,q4⟩:=RT.out _ E.out;go_wp2_with fail
 refine(HOO.out _ E.out).mono ?_;rintro e w1 ⟨rfl,hb⟩;replace E:=hid (E.out.trans hb);replace HR:=hid (HR.out.up hb);clear hb;go_wp2_with fail
 refine(HD.out _ E.out).mono ?_;rintro e w2 ⟨v2,rfl,hv,hb⟩;obtain⟨N2,nn2,nc2,A2,n2,c2,rfl,-,-,-,-,-,-⟩:=hv.shape;have hlt:=HR.out.lt;have hsz:=E.out.size;have HV:=hid (fun x0 x1 x2 x3 x4 x5=>new_putG (x0:=x0) (x1:=x1) (x2:=x2) (x3:=x3) (x4:=x4) (x5:=x5) hv hlt (B:=w.heap.size) hsz);replace HR:=hid (HR.out.up hb);replace E:=hid (E.out.trans hb);obtain⟨⟨r0,r1,r2,r3,r4,r5⟩,⟨f0,f1,f2,f3,f4,f5⟩,hzr⟩:=boxF6 HR.out;obtain⟨Rt,Rc⟩:=R;clear hb hv hlt hsz;go_wp2_with fail
 refine bodyPost_ret (v:=.tuple #[kv Rt.op Rt.g N2 nn2 nc2 Rt.name Rt.sort A2 n2 c2,.int .i64 Rc]) (by simp[results,Tryz.results177,go_sem,r0,r1,r2,r3,r4,r5,hzr]) rfl ?_;exact⟨_,rfl,HV.out _ _ _ _ _ _,put6_ext E.out (by omega)⟩
def TmC (w:World): List M.Tm→List Value→Prop
 | [],xs=>xs=[]
 | t::r,xs=>∃N nn nc A n c ys,xs=.int .i64 t.op::.bool t.g::.slice N nn nc::str t.name::.int .i64 t.sort::.slice A n c::ys∧LNum w (.slice N nn nc) t.ls∧Tms w t.kids (.slice A n c)∧TmC w r ys
def OwnTm (B:Nat)(V w:World)(v:Value)(l:List M.Tm): Prop:=∃xs,w.ownsRow B 27 6 v l.length xs∧TmC V l xs
theorem OwnTm.frame {B:Nat}{V w w':World}{v:Value}{l:List M.Tm}(h:OwnTm B V w v l)(hb:∀b,B≤b→b<w.heap.size→w'.heap[b]?=w.heap[b]?): OwnTm B V w' v l:=by
 obtain⟨xs,h1,h2⟩:=h;exact⟨xs,kframe h1 hb,h2⟩
theorem OwnTm.up {B:Nat}{V w w':World}{v:Value}{l:List M.Tm}(h:OwnTm B V w v l)(e:Ext w w'): OwnTm B V w' v l:=h.frame fun b _ hb=>e.block b hb
def M.bare (t:M.Tm): Prop:=t.ls=[]∧t.kids=[]
theorem TmC.any {V V':World}: ∀{l:List M.Tm} {xs:List Value},(∀t∈l,M.bare t)→TmC V l xs→TmC V' l xs
 | [],_,_,h=>h
 | t::r,_,hb,⟨N,nn,nc,A,n,c,ys,h1,h2,h3,h4⟩=>by
  obtain⟨b1,b2⟩:=hb t (List.mem_cons_self ..);rw[b1] at h2;rw[b2] at h3;refine⟨N,nn,nc,A,n,c,ys,h1,?_,?_,TmC.any (fun u hu=>hb u (List.mem_cons_of_mem _ hu)) h4⟩
  ·rw[b1];obtain⟨A',n',c',g1,g2,g3,g4,g5,g6⟩:=h2;exact⟨A',n',c',g1,g2,g3,g4,g5,fun h=>absurd rfl h⟩
  ·rw[b2];obtain⟨A',n',c',g1,g2,g3,g4,g5⟩:=h3;exact⟨A',n',c',g1,g2,g3,g4,fun h=>absurd rfl h⟩
theorem OwnTm.any {B:Nat}{V V' w:World}{v:Value}{l:List M.Tm}(h:OwnTm B V w v l)(hb:∀t∈l,M.bare t): OwnTm B V' w v l:=by
 obtain⟨xs,h1,h2⟩:=h;exact⟨xs,h1,h2.any hb⟩
end Go.Proofs.YtoenjbkmiphhoaaGreatDoor.Q
