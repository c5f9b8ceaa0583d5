/-
  Layers 13 to 15, words: blocks that a state with lists of its own doesn't write into; lists of terms of one's own.
-/
import Derived.Test.YtoenjbkmiphhoaaGreatDoorA26
import Derived.Test.YtoenjbkmiphhoaaGreatDoorA25
import Derived.Laws.Cover1
namespace Go.Proofs.YtoenjbkmiphhoaaGreatDoor.Q
set_option linter.unusedSimpArgs false
set_option linter.unusedVariables false
open Go.RowKit
abbrev qt (g:Nat)(vs:List Value)(k:Nat): Prop:=k≠g∧∀v∈vs,v.ownBlock≠some k
def Low (B g:Nat)(vs:List Value)(w:World): Prop:=(B≤g∧g<w.heap.size)∧∀v∈vs,∀k,v.ownBlock=some k→B≤k∧k<w.heap.size∧k≠g
def Turn (B g:Nat)(vs:List Value)(w:World)(vs':List Value)(w':World): Prop:=Below B w w'∧∀k,k<w.heap.size→qt g vs k→qt g vs' k∧w'.heap[k]?=w.heap[k]?
theorem Turn.refl (B g:Nat)(vs:List Value)(w:World): Turn B g vs w vs w:=⟨Below.refl _ _,fun _ _ h=>⟨h,rfl⟩⟩
theorem Turn.size {B g:Nat}{vs vs':List Value}{w w':World}(h:Turn B g vs w vs' w'): w.heap.size≤w'.heap.size:=h.1.size
theorem Turn.trans {B g:Nat}{vs vs1 vs2:List Value}{w w1 w2:World}(h:Turn B g vs w vs1 w1)(k:Turn B g vs1 w1 vs2 w2): Turn B g vs w vs2 w2:=
 ⟨Below.trans h.1 k.1,fun i hi hq=>by
  obtain⟨a1,a2⟩:=h.2 i hi hq;obtain⟨b1,b2⟩:=k.2 i (Nat.lt_of_lt_of_le hi h.size) a1;exact⟨b1,b2.trans a2⟩⟩
theorem Turn.ext {B g:Nat}{vs:List Value}{w w':World}(hB:B≤w.heap.size)(e:Ext w w'): Turn B g vs w vs w':=⟨Below.mono e hB,fun k hk hq=>⟨hq,e.block k hk⟩⟩
theorem Turn.box {B g k:Nat}{vs vs':List Value}{w w':World}{cs:Array Value}{T:TypeId}(h:Turn B g vs w vs' w')(hb:Box w k cs T)(hq:qt g vs k): Box w' k cs T∧qt g vs' k:=by
 obtain⟨a1,a2⟩:=h.2 k hb.lt hq;exact⟨a2.trans hb,a1⟩
theorem Turn.sub {B g:Nat}{vs vs':List Value}{w w':World}(xs:List Value)(h:Turn B g vs w vs' w'): Sub (gp (qt g (vs++xs)) w) (gp (qt g (vs'++xs)) w'):=
 gpv_mono h.size fun k hk hq=>by
  obtain⟨a1,a2⟩:=h.2 k hk ⟨hq.1,fun v hv=>hq.2 v (List.mem_append_left _ hv)⟩;refine⟨⟨a1.1,fun v hv=>?_⟩,a2⟩;rcases List.mem_append.1 hv with hv|hv
  ·exact a1.2 v hv
  ·exact hq.2 v (List.mem_append_right _ hv)
theorem qt_mono {g:Nat}{vs us:List Value}{w:World}(h:∀v∈us,v∈vs∨v.ownBlock=none): Sub (gp (qt g vs) w) (gp (qt g us) w):=
 gpv_mono (Nat.le_refl _) fun k hk hq=>⟨⟨hq.1,fun v hv=>by
  rcases h v hv with h|h
  ·exact hq.2 v h
  ·rw[h];intro e;cases e⟩,rfl⟩
theorem Low.new {B g:Nat}{vs:List Value}{w:World}(h:Low B g vs w){k:Nat}(hk:w.heap.size≤k): qt g vs k:=
 ⟨fun e=>by have:=h.1.2;omega,fun v hv e=>by have:=(h.2 v hv k e).2.1;omega⟩
theorem Low.old {g:Nat}{vs:List Value}{w0 w:World}(h:Low w0.heap.size g vs w)(e:Ext w0 w): Sub w0 (gp (qt g vs) w):=
 e.gp_new fun k hk=>⟨fun he=>by have:=h.1.1;omega,fun v hv he=>by have:=(h.2 v hv k he).1;omega⟩
theorem Low.ext {B g:Nat}{vs:List Value}{w w':World}(h:Low B g vs w)(e:w.heap.size≤w'.heap.size): Low B g vs w':=
 ⟨⟨h.1.1,Nat.lt_of_lt_of_le h.1.2 e⟩,fun v hv k hk=>by obtain⟨a,b,c⟩:=h.2 v hv k hk;exact⟨a,Nat.lt_of_lt_of_le b e,c⟩⟩
theorem Turn.set {B g o:Nat}{vs:List Value}{w:World}{u:Value}(hB:B≤g): Turn B g vs w vs (w.setCell ⟨g,o,none⟩ u):=
 ⟨(Below.refl _ _).setCell hB _,fun k hk hq=>⟨hq,Below.heap_setCell _ _ _ _ hq.1⟩⟩
theorem Turn.list {B g:Nat}{la lb:List Value}{v v':Value}{w w':World}(hL:Low B g (la++v::lb) w)(hb:Below B w w')(hg:w.grownBy w' v.ownBlock)(hv:v'.ownBlock=v.ownBlock∨v'.ownBlock=some w.heap.size): Turn B g (la++v::lb) w (la++v'::lb) w':=
 ⟨hb,fun k hk hq=>by
  have hne:v.ownBlock≠some k:=hq.2 v (by simp);refine⟨⟨hq.1,fun u hu=>?_⟩,hg.block k hk (Ne.symm hne)⟩;rcases List.mem_append.1 hu with hu|hu
  ·exact hq.2 u (List.mem_append_left _ hu)
  ·rcases List.mem_cons.1 hu with rfl|hu
   ·rcases hv with e|e
    ·rw[e];exact hne
    ·rw[e];intro e;injection e with e;omega
   ·exact hq.2 u (by simp[hu])⟩
theorem Low.list {B g:Nat}{la lb:List Value}{v v':Value}{w w':World}(hL:Low B g (la++v::lb) w)(hb:Below B w w')(hv:v'.ownBlock=v.ownBlock∨v'.ownBlock=some w.heap.size)(hlt:∀k,v'.ownBlock=some k→B≤k∧k<w'.heap.size): Low B g (la++v'::lb) w':=
 ⟨⟨hL.1.1,Nat.lt_of_lt_of_le hL.1.2 hb.size⟩,fun u hu k hk=>by
  rcases List.mem_append.1 hu with hu|hu
  ·obtain⟨a,b,c⟩:=hL.2 u (List.mem_append_left _ hu) k hk;exact⟨a,Nat.lt_of_lt_of_le b hb.size,c⟩
  ·rcases List.mem_cons.1 hu with rfl|hu
   ·obtain⟨a,b⟩:=hlt k hk;refine⟨a,b,?_⟩;rcases hv with e|e
    ·rw[e] at hk;exact(hL.2 v (by simp) k hk).2.2
    ·rw[e] at hk;injection hk with hk;have:=hL.1.2;omega
   ·obtain⟨a,b,c⟩:=hL.2 u (by simp[hu]) k hk;exact⟨a,Nat.lt_of_lt_of_le b hb.size,c⟩⟩
def bls (g:Nat)(vs:List Value): List Nat:=g::vs.flatMap fun v=>v.ownBlock.toList
theorem bls_not {g:Nat}{vs:List Value}{k:Nat}: k∉bls g vs↔qt g vs k:=by
 unfold bls qt;simp only[List.mem_cons,List.mem_flatMap,not_or,not_exists,not_and,Option.mem_toList]
theorem Turn.kept {B g:Nat}{vs vs':List Value}{w w':World}(h:Turn B g vs w vs' w'): Kept (bls g vs) w w':=⟨Below.mono h.1 (Nat.zero_le _),fun k hk hx=>(h.2 k hk (bls_not.1 hx)).2⟩
def TC (V:World)(t:M.Tm)(us:List Value): Prop:=∃N nn nc A n c,us=[.int .i64 t.op,.bool t.g,.slice N nn nc,str t.name,.int .i64 t.sort,.slice A n c]∧LNum V (.slice N nn nc) t.ls∧Tms V t.kids (.slice A n c)
theorem tck:CKind TC 6 where
 len:=by rintro V x us ⟨N,nn,nc,A,n,c,rfl,-⟩;rfl
 one:=by
  rintro V x us ⟨N,nn,nc,A,n,c,rfl,-⟩ u hu
  simp at hu
  rcases hu with rfl|rfl|rfl|rfl|rfl|rfl<;>rfl
 sub:=by rintro V V' x us ⟨N,nn,nc,A,n,c,h1,h2,h3⟩ e;exact⟨N,nn,nc,A,n,c,h1,h2.sub e,h3.sub e⟩
theorem ttk:TKind 6 25 27:=⟨by decide,Tryz.underlying25,.agg #[.int .i64 0,.bool false,.slice none 0 0,.string ⟨#[]⟩,.int .i64 0,.slice none 0 0],88,by kernel_rfl,rfl,by decide⟩
theorem OwnL.terms {B:Nat}{V w:World}{v:Value}{l:List M.Tm}(h:OwnL TC 6 27 B V w v l){U:World}(e:Sub V U)(ew:w.heap.size≤U.heap.size)(hc:∀(a:Addr) (u:Value),(∃g,v.ownBlock=some g∧a.block=g)→w.cell? a=some u→U.cell? a=some u): Tms U l v:=by
 obtain⟨A,n,c,rfl,h2,h3,h4,h5⟩:=h.tell tck;refine Tms.mk_ ⟨A,n,c,rfl,h2,h3,h4,fun hne=>?_⟩;obtain⟨x,hx⟩:∃x,l[0]?=some x:=⟨_,List.getElem?_eq_getElem (by cases l with|nil=>exact absurd rfl hne|cons=>simp)⟩;obtain⟨g,rfl,hb,hg,-⟩:=h5 0 x hx;refine⟨_,rfl,Nat.lt_of_lt_of_le hg ew,fun k t hk=>?_⟩;obtain⟨g',e',-,-,us,⟨N,nn,nc,A1,n1,c1,rfl,hn,hks⟩,hcell⟩:=h5 k t hk;injection e' with e';injection e' with e';subst e';have hcc:∀(a:Addr) (u:Value),a.block=g→w.cell? a=some u→U.cell? a=some u:=fun a u ha hu=>hc a u ⟨g,rfl,ha⟩ hu;obtain⟨op,tg,ls,nm,s,ks⟩:=t;have c0:=hcc _ _ (by rw[addr_block,addr_block]) (hcell 0 _ rfl);rw[Addr.add_zero'] at c0;exact tmAt_mk.2 ⟨N,nn,nc,_,⟨⟨c0,hcc _ _ (by rw[addr_block,addr_block]) (hcell 1 _ rfl),hcc _ _ (by rw[addr_block,addr_block]) (hcell 2 _ rfl)⟩,hcc _ _ (by rw[addr_block,addr_block]) (hcell 3 _ rfl),hcc _ _ (by rw[addr_block,addr_block]) (hcell 4 _ rfl),hcc _ _ (by rw[addr_block,addr_block]) (hcell 5 _ rfl)⟩,LNum.sub hn e,hks.sub e⟩
theorem IsTm.any {w V:World}{t:M.Tm}{v:Value}(h:IsTm w t v)(h1:t.ls=[])(h2:t.kids=[]): IsTm V t v:=by
 obtain⟨N,nn,nc,A,c,e,h3,h4⟩:=h;refine⟨N,nn,nc,A,c,e,?_,?_⟩
 ·rw[h1] at h3 ⊢;obtain⟨A',n',c',g1,g2,g3,g4,g5,g6⟩:=h3;exact⟨A',n',c',g1,g2,g3,g4,g5,fun h=>absurd rfl h⟩
 ·rw[h2] at h4 ⊢;obtain⟨A',n',c',g1,g2,g3,g4,g5⟩:=h4;exact⟨A',n',c',g1,g2,g3,g4,fun h=>absurd rfl h⟩
theorem LC.split {α:Type}{C:World→α→List Value→Prop}{V:World}: ∀{l m:List α} {xs:List Value},LC C V (l++m) xs→∃ys zs,xs=ys++zs∧LC C V l ys∧LC C V m zs
 | [],m,xs,h=>⟨[],xs,rfl,rfl,h⟩
 | x::r,m,xs,⟨us,ys,h1,h2,h3⟩=>by
  obtain⟨ys',zs,e,h4,h5⟩:=LC.split (l:=r) h3;exact⟨us++ys',zs,by rw[h1,e,List.append_assoc],⟨us,ys',rfl,h2,h4⟩,h5⟩
theorem own_last {B:Nat}{V w:World}{v:Value}{l:List M.Tm}{x y:M.Tm}{x0 x1 x2 x3 x4 x5:Value}(h:OwnL TC 6 27 B V w v (l++[x]))(hy:TC V y [x0,x1,x2,x3,x4,x5]):
 ∃b cap cur,v=.slice (some ⟨b,0,none⟩) (l.length+1) cap∧B≤b∧Box w b cur 27∧l.length*6+6≤cur.size∧OwnL TC 6 27 B V (put6A w b (l.length*6) x0 x1 x2 x3 x4 x5) v (l++[y]):=by
 obtain⟨xs,⟨hl,h3⟩,h2⟩:=h;have hn:(l++[x]).length=l.length+1:=by simp
 rw[hn] at hl h3;rcases h3 with⟨-,h0⟩|⟨b,cap,cur,rfl,hb,hc,hc1,hm,hsz,htk⟩
 ·omega
 obtain⟨ys,zs,e,h4,-⟩:=h2.split;have hyl:=h4.len tck;have hps:l.length*6+6≤cur.size:=by rw[hsz];have:(l.length+1)*6≤cap*6:=Nat.mul_le_mul_right _ hc1;omega
 refine⟨b,cap,cur,rfl,hb,hc,hps,ys++[x0,x1,x2,x3,x4,x5],⟨by simp[hyl];omega,.inr ⟨b,cap,_,by simp,hb,put6A_box hc,by simp;omega,hm,by rw[cur6_size];exact hsz,?_⟩⟩,LC.app h4 ⟨_,[],by simp,hy,rfl⟩⟩;obtain⟨z0,z1,z2,z3,z4,z5⟩:=cur6_at (x0:=x0) (x1:=x1) (x2:=x2) (x3:=x3) (x4:=x4) (x5:=x5) hps
 apply List.ext_getElem?
 intro i;rw[List.getElem?_take];have hn2:(l++[y]).length*6=l.length*6+6:=by simp;omega
 rw[hn2]
 by_cases hi:i<l.length*6+6
 ·rw[if_pos hi,Array.getElem?_toList]
  by_cases hi2:i<l.length*6
  ·rw[cur6_off (.inl hi2),List.getElem?_append_left (by omega)];have e1:(cur.toList.take ((l.length+1)*6))[i]?=cur.toList[i]?:=by rw[List.getElem?_take,if_pos (by omega)]
   rw[htk,e,List.getElem?_append_left (by omega)] at e1;rw[e1,Array.getElem?_toList]
  ·rw[List.getElem?_append_right (by omega),hyl];obtain⟨j,hj⟩:∃j,i=l.length*6+j:=⟨i-l.length*6,by omega⟩;subst hj;have hj6:j<6:=by omega
   rw[Nat.add_sub_cancel_left]
   match j,hj6 with
   | 0,_=>exact z0
   | 1,_=>exact z1
   | 2,_=>exact z2
   | 3,_=>exact z3
   | 4,_=>exact z4
   | 5,_=>exact z5
 ·rw[if_neg hi,List.getElem?_eq_none (by simp[hyl];omega)]
set_option linter.unusedSimpArgs false
set_option linter.unusedVariables false
open Go.RowKit
set_option maxHeartbeats 2000000 in
theorem binary_v {g:Bool}{N:Option Addr}{nn nc:Nat}{ls:List Nat}{Z:Int}{w:World}(hn:LNum w (.slice N nn nc) ls)(hZ:M.zv g ls=Z): Calls Tryz.prog 189 #[.agg #[.bool g,.slice N nn nc]] w (GivesB w (decide (Z=0)||decide (Z=1))):=by
 have HW:=hid (show ∀w',Ext w w'→Worth w' (.agg #[.bool g,.slice N nn nc]) Z ls.length from fun w' e=>hZ▸worth_tm (hn.up e));have hb:=Box.new w #[.bool g,.slice N nn nc] 24;have b0:=hb.k 0;have b1:=hb.k 1;clear hb hn hZ
 by_cases hf:M.fits Z
 ·have HS:=hid (fun w' e=>small_yes (HW.out w' e) hf);have h0:(Z==0)=decide (Z=0):=by rw[dec_eqI]
  have h1:(Z==1)=decide (Z=1):=by rw[dec_eqI]
  obtain⟨q0,hq0⟩:∃q,decide (Z=0)=q:=⟨_,rfl⟩;obtain⟨q1,hq1⟩:∃q,decide (Z=1)=q:=⟨_,rfl⟩;rw[hq0] at h0 ⊢;rw[hq1] at h1 ⊢;clear HW hf hq0 hq1;cases q0
  ·go_enter Tryz.func189,Tryz.ntmps189
   go_wp2_with fail
   refine(HS.out _ (Ext.alloc w _)).mono ?_;rintro e w1 ⟨rfl,hx⟩;have E:=hid ((Ext.alloc w _).trans hx);clear hx b0 b1 HS;go_wp2;go_ret;exact⟨rfl,E.out⟩
  ·go_enter Tryz.func189,Tryz.ntmps189
   go_wp2_with fail
   refine(HS.out _ (Ext.alloc w _)).mono ?_;rintro e w1 ⟨rfl,hx⟩;have E:=hid ((Ext.alloc w _).trans hx);clear hx b0 b1 HS;go_wp2;go_ret;exact⟨rfl,E.out⟩
 ·have HS:=hid (fun w' e=>small_no (HW.out w' e) hf);have e0:decide (Z=0)=false:=by simp only[decide_eq_false_iff_not];intro h;exact hf (by rw[h];unfold M.fits;omega)
  have e1:decide (Z=1)=false:=by simp only[decide_eq_false_iff_not];intro h;exact hf (by rw[h];unfold M.fits;omega)
  rw[e0,e1];clear HW hf e0 e1;go_enter Tryz.func189,Tryz.ntmps189
  go_wp2_with fail
  refine(HS.out _ (Ext.alloc w _)).mono ?_;rintro e w1 ⟨rfl,hx⟩;have E:=hid ((Ext.alloc w _).trans hx);clear hx b0 b1 HS;go_wp2;go_ret;exact⟨rfl,E.out⟩
set_option maxHeartbeats 2000000 in
theorem sorted_v {x:M.Vl}{s:Int}{v:Value}{w:World}(h:IsVl w x v): Calls Tryz.prog 153 #[v,.int .i64 s] w (GivesB w (M.vIs x s)):=by
 obtain⟨so,g,ls⟩:=x;obtain⟨N,nn,nc,rfl,hn⟩:=h;obtain⟨R,hRR⟩:∃R,M.vIs (so,g,ls) s=R:=⟨_,rfl⟩;rw[hRR];have HR:=hid (show M.vIs (so,g,ls) s=R from hRR);obtain⟨Z,hZ⟩:∃Z,M.zv g ls=Z:=⟨_,rfl⟩;obtain⟨b,hb⟩:∃b,M.isZ g ls=b:=⟨_,rfl⟩;have HV:=hid (show M.vIs (so,g,ls) s=(decide (so=s)&&(b&&(decide (s=2)||(decide (Z=0)||decide (Z=1))))) by rw[←hb,←hZ];rfl);have HI:=hid (show ∀w',Ext w w'→Calls Tryz.prog 146 #[.agg #[.bool g,.slice N nn nc]] w' (GivesB w' b) from fun w' e=>wIs_any (LNum.up hn e) hb);have HN:=hid (show ∀w',Ext w w'→Calls Tryz.prog 189 #[.agg #[.bool g,.slice N nn nc]] w' (GivesB w' (decide (Z=0)||decide (Z=1))) from fun w' e=>binary_v (LNum.up hn e) hZ);obtain⟨q,hq⟩:∃q,(decide (Z=0)||decide (Z=1))=q:=⟨_,rfl⟩;rw[hq] at HN HV;have HB:=hid (Box.new w #[.int .i64 so,.bool g,.slice N nn nc] 45);clear hRR hZ hb hq hn;obtain⟨⟨c0,c1,c2⟩,-,-⟩:=box3v HB.out;show Calls Tryz.prog 153 #[vv so g N nn nc,.int .i64 s] w _
 by_cases h1:so=s
 case neg=>
  have hf:(so==s)=false:=by simpa using h1
  have HE:=hid (show R=false by rw[←HR.out,HV.out,decide_eq_false h1];rfl);clear HR HV HI HN HB h1;go_enter Tryz.func153,Tryz.ntmps153
  go_wp2;go_ret;exact⟨by rw[HE.out];rfl,Ext.alloc w _⟩
 case pos=>
 subst h1;rw[decide_eq_true rfl,Bool.true_and] at HV;cases b
 ·have HE:=hid (show R=false by rw[←HR.out,HV.out];rfl);clear HR HV HN;go_enter Tryz.func153,Tryz.ntmps153
  go_wp2_with fail
  refine(HI.out _ (Ext.alloc w _)).mono ?_;rintro e w1 ⟨rfl,hx⟩;have E:=hid ((Ext.alloc w _).trans hx);clear hx c0 c1 c2 HI HB;go_wp2;go_ret;exact⟨by rw[HE.out];rfl,E.out⟩
 ·rw[Bool.true_and] at HV
  by_cases h2:so=2
  ·subst h2;have HE:=hid (show R=true by rw[←HR.out,HV.out];rfl);clear HR HV HN;go_enter Tryz.func153,Tryz.ntmps153
   go_wp2_with fail
   refine(HI.out _ (Ext.alloc w _)).mono ?_;rintro e w1 ⟨rfl,hx⟩;have E:=hid ((Ext.alloc w _).trans hx);clear hx c0 c1 c2 HI HB;go_wp2;go_ret;exact⟨by rw[HE.out];rfl,E.out⟩
  ·have hf2:(so==2)=false:=by simpa using h2
   have HE:=hid (show R=q by rw[←HR.out,HV.out,decide_eq_false h2,Bool.false_or]);clear HR HV h2;go_enter Tryz.func153,Tryz.ntmps153
   go_wp2_with fail
   refine(HI.out _ (Ext.alloc w _)).mono ?_;rintro e w1 ⟨rfl,hx⟩;have E:=hid ((Ext.alloc w _).trans hx);obtain⟨⟨d0,d1,d2⟩,-,-⟩:=box3v (HB.out.up hx);clear hx c0 c1 c2 HI HB;go_wp2_with fail
   refine(HN.out _ E.out).mono ?_;rintro e w2 ⟨rfl,hx⟩;have E2:=hid (E.out.trans hx);clear hx d0 d1 d2 HN E;go_wp2;go_ret;exact⟨by rw[HE.out];rfl,E2.out⟩
theorem M.vIss_len:∀{l:List M.Vl} {s:List Int},l.length≠s.length→M.vIss l s=false
 | [],[],h=>absurd rfl h
 | [],_::_,_=>rfl
 | _::_,[],_=>rfl
 | x::r,y::q,h=>by rw[M.vIss,M.vIss_len (l:=r) (s:=q) (by simpa using h),Bool.and_false]
theorem M.vIss_take:∀{l:List M.Vl} {s:List Int} {k:Nat} {x:M.Vl} {y:Int},l[k]?=some x→s[k]?=some y→M.vIss (l.take (k+1)) (s.take (k+1))=(M.vIss (l.take k) (s.take k)&&M.vIs x y)
 | [],_,_,_,_,h,_=>by simp at h
 | _::_,[],_,_,_,_,h=>by simp at h
 | a::r,b::q,0,x,y,h,k=>by
  simp at h k;subst h k;simp[M.vIss]
 | a::r,b::q,n+1,x,y,h,k=>by
  have:=M.vIss_take (l:=r) (s:=q) (k:=n) (x:=x) (y:=y) (by simpa using h) (by simpa using k);rw[List.take_succ_cons,List.take_succ_cons,List.take_succ_cons,List.take_succ_cons,M.vIss,M.vIss,this,Bool.and_assoc]
theorem M.vIss_no:∀{l:List M.Vl} {s:List Int} {k:Nat} {x:M.Vl} {y:Int},l[k]?=some x→s[k]?=some y→M.vIs x y=false→M.vIss l s=false
 | [],_,_,_,_,h,_,_=>by simp at h
 | _::_,[],_,_,_,_,h,_=>by simp at h
 | a::r,b::q,0,x,y,h,k,hf=>by
  simp at h k;subst h k;rw[M.vIss,hf];rfl
 | a::r,b::q,n+1,x,y,h,k,hf=>by
  rw[M.vIss,M.vIss_no (l:=r) (s:=q) (k:=n) (by simpa using h) (by simpa using k) hf,Bool.and_false]
abbrev sortedFun:Value:=.func (.func 153) #[] #[]
set_option maxHeartbeats 4000000 in
theorem equalVI_n {v u:Value}{l:List M.Vl}{s:List Int}{w:World}(h:VList w v l)(hs:Ints w s u): Calls Tryz.prog 154 #[v,u,sortedFun] w (GivesB w (M.vIss l s)):=by
 obtain⟨A,n,c,rfl⟩:=h.shape;obtain⟨hn,hl2,hl3⟩:=h.count;obtain⟨B,d,rfl⟩:=hs.shape;obtain⟨hm1,hm2,hm3⟩:=hs.le;obtain⟨m,hm⟩:∃m,s.length=m:=⟨_,rfl⟩;rw[hm] at hs hm2 ⊢;obtain⟨R,hRR⟩:∃R,M.vIss l s=R:=⟨_,rfl⟩;rw[hRR];have HRR:=hid hRR;have HL:=hid h;have HS:=hid hs;have HN:=hid hn.symm;have HM:=hid hm;clear h hs hRR hm1
 by_cases hnm:n=m
 case neg=>
  have hne:((n:Int) != (m:Int))=true:=by simp;omega
  have HF:=hid (show R=false from HRR.out.symm.trans (M.vIss_len (by rw[HN.out,HM.out];exact hnm)));clear hnm hn hm;go_enter Tryz.func154,Tryz.ntmps154
  go_wp2;go_ret;exact⟨by rw[HF.out];rfl,Ext.refl _⟩
 case pos=>
 subst hnm;clear hn hm;go_enter Tryz.func154,Tryz.ntmps154
 go_wp2_with fail
 go_loopw[17] (fun i wr=>∃k:Nat,k≤n∧i=.int .i64 k∧Hid (M.vIss (l.take k) (s.take k)=true∧Ext w wr)) (fun i _=>n-(intOf i).toNat)
 case atStart=>exact⟨0,Nat.zero_le _,rfl,by simp[M.vIss],Ext.refl _⟩
 case round=>
  obtain⟨k,hk,rfl,hR⟩:=hrel;have E:=hid hR.out.2;have HT:=hid hR.out.1;clear hR;rcases Nat.lt_or_ge k n with hlt|hge
  ·have hlt':(k:Int)<(n:Int):=by omega
   obtain⟨x,hx⟩:∃x,l[k]?=some x:=⟨_,List.getElem?_eq_getElem (by rw[HN.out];exact hlt)⟩;obtain⟨ad,N,nn,nc,rfl,⟨c0,c1,c2⟩,hv⟩:=(HL.out.up E.out).at_ hx;have EB:=hid (Ext.alloc wr (.cells #[.int .i64 x.1,.bool x.2.1,.slice N nn nc] 45));obtain⟨bd,y,rfl,hy,hd0⟩:=((HS.out.up E.out).up EB.out).get hlt;have HX:=hid hx;have HY:=hid hy;obtain⟨q,hq⟩:∃q,M.vIs x y=q:=⟨_,rfl⟩;have HC:=hid (show ∀w',Ext wr w'→Calls Tryz.prog 153 #[vv x.1 x.2.1 N nn nc,.int .i64 y] w' (GivesB w' q) from fun w' e=>hq▸sorted_v (hv.up e));have HQ:=hid hq;obtain⟨⟨b0,b1,b2⟩,-,-⟩:=box3v (Box.new wr #[.int .i64 x.1,.bool x.2.1,.slice N nn nc] 45);clear hx hy hq hv;go_wp2_with fail
   refine(HC.out _ EB.out).mono ?_;rintro e w' ⟨rfl,hb⟩;replace E:=hid ((E.out.trans EB.out).trans hb);clear hb c0 c1 c2 b0 b1 b2 HC hd0;cases q
   ·have HF:=hid (show R=false from HRR.out.symm.trans (M.vIss_no HX.out HY.out HQ.out));go_wp2;go_ret;exact⟨by rw[HF.out];rfl,E.out⟩
   ·go_wp2_with fail
    go_roundw
    case rel=>exact⟨k+1,by omega,by simp,by rw[M.vIss_take HX.out HY.out,HT.out,HQ.out];rfl,E.out⟩
    case measure=>simp[intOf];omega
  ·obtain rfl:k=n:=by omega
   have HF:=hid (show R=true by have h1:=HT.out;rw[←HN.out,List.take_length,HN.out,←HM.out,List.take_length] at h1;exact HRR.out.symm.trans h1);go_wp2;go_ret;exact⟨by rw[HF.out];rfl,E.out⟩
def M.rowIs (s:M.Sg)(r:List M.Vl×M.Vl): Bool:=M.vIss r.1 s.args&&M.vIs r.2 s.ret
theorem M.all_take {α:Type}{l:List α}{k:Nat}{x:α}{p:α→Bool}(h:l[k]?=some x): (l.take (k+1)).all p=((l.take k).all p&&p x):=by
 rw[List.take_add_one,h,List.all_append];simp
theorem M.not_all {α:Type}{l:List α}{k:Nat}{x:α}{p:α→Bool}(h:l[k]?=some x)(hp:p x=false): l.all p=false:=by
 rw[List.all_eq_false];exact⟨x,List.mem_of_getElem? h,by simp[hp]⟩
set_option maxHeartbeats 8000000 in
theorem sound_v {f:M.Fn}{v:Value}{w:World}(h:IsFn w f v)(hl:f.sg.name.length≤1000000000000): Calls Tryz.prog 116 #[v] w (GivesB w (M.fnIs f)):=by
 obtain⟨⟨nm,ag,rt⟩,rws,⟨es,eg,els⟩⟩:=f;obtain⟨A,n,c,B,m,d,N,nn,nc,rfl,hi,hr,hn⟩:=h;replace hi:Ints w ag (.slice A n c):=hi;replace hr:RwList w rws (.slice B m d):=hr;replace hn:LNum w (.slice N nn nc) els:=hn;show Calls Tryz.prog 116 #[fv nm A n c rt B m d es eg N nn nc] w _;obtain⟨R,hRR⟩:∃R,M.fnIs ⟨⟨nm,ag,rt⟩,rws,(es,eg,els)⟩=R:=⟨_,rfl⟩;rw[hRR];obtain⟨b1,hb1⟩:∃b,M.ksig ⟨nm,ag,rt⟩=b:=⟨_,rfl⟩;obtain⟨b2,hb2⟩:∃b,M.vIs (es,eg,els) rt=b:=⟨_,rfl⟩;have HRR:=hid (show R=(b1&&(b2&&rws.all (M.rowIs ⟨nm,ag,rt⟩))) by rw[←hRR,←hb1,←hb2];rfl);obtain⟨hn1,hn2,hn3⟩:=hi.le;obtain⟨hm1,hm2,hm3⟩:=hr.le;have HI:=hid hi;have HW:=hid hr;have HM:=hid hm1.symm;have HS:=hid (show ∀w',Ext w w'→Calls Tryz.prog 152 #[sgv nm A n c rt] w' (GivesB w' b1) from fun w' e=>hb1▸isSig_t (s:=⟨nm,ag,rt⟩) ⟨A,c,by rw[hn1],(show Ints w ag (.slice A ag.length c) from hn1▸hi).up e⟩ hl);have HE:=hid (show ∀w',Ext w w'→Calls Tryz.prog 153 #[vv es eg N nn nc,.int .i64 rt] w' (GivesB w' b2) from fun w' e=>hb2▸sorted_v (x:=(es,eg,els)) ⟨N,nn,nc,rfl,LNum.up hn e⟩);have HB:=hid (Box.new w #[str nm,.slice A n c,.int .i64 rt,.slice B m d,.int .i64 es,.bool eg,.slice N nn nc] 65);have E0:=hid (Ext.alloc w (.cells #[str nm,.slice A n c,.int .i64 rt,.slice B m d,.int .i64 es,.bool eg,.slice N nn nc] 65));clear hRR hb1 hb2 hn1 hi hr hn hl hm1;go_enter Tryz.func116,Tryz.ntmps116
 go_upto_region 1 with (fail)
 refine vwp_at (fun W=>Box W w.heap.size #[str nm,.slice A n c,.int .i64 rt,.slice B m d,.int .i64 es,.bool eg,.slice N nn nc] 65∧Ext w W) ⟨HB.out,E0.out⟩ ?_;clear HB E0;intro W ⟨hb0,he⟩;obtain⟨g0,hg0⟩:∃g,w.heap.size=g:=⟨_,rfl⟩;rw[hg0] at hb0 ⊢;have HB:=hid hb0;have E:=hid he;clear hb0 he hg0;obtain⟨⟨c0,c1,c2,c3,c4,c5,c6⟩,-⟩:=box7v HB.out;cases b1
 ·have HF:=hid (show R=false by rw[HRR.out];rfl);go_wp2_with fail
  refine(HS.out _ E.out).mono ?_;rintro e w1 ⟨rfl,hx⟩;have E1:=hid (E.out.trans hx);clear hx c0 c1 c2 c3 c4 c5 c6 HS HE HB HI HW HRR;go_wp2;go_ret;exact⟨by rw[HF.out];rfl,E1.out⟩
 go_wp2_with fail
 refine(HS.out _ E.out).mono ?_;rintro e w1 ⟨rfl,hx⟩;have E1:=hid (E.out.trans hx);replace HB:=hid (HB.out.up hx);clear hx c0 c1 c2 c3 c4 c5 c6 HS E;obtain⟨⟨c0,c1,c2,c3,c4,c5,c6⟩,-⟩:=box7v HB.out;cases b2
 ·have HF:=hid (show R=false by rw[HRR.out];rfl);go_wp2_with fail
  refine(HE.out _ E1.out).mono ?_;rintro e w2 ⟨rfl,hx⟩;have E2:=hid (E1.out.trans hx);clear hx c0 c1 c2 c3 c4 c5 c6 HE HB HI HW HRR;go_wp2;go_ret;exact⟨by rw[HF.out];rfl,E2.out⟩
 rw[Bool.true_and,Bool.true_and] at HRR;go_wp2_with fail
 refine(HE.out _ E1.out).mono ?_;rintro e w2 ⟨rfl,hx⟩;have E2:=hid (E1.out.trans hx);replace HB:=hid (HB.out.up hx);clear hx c0 c1 c2 c3 c4 c5 c6 HE E1;obtain⟨⟨c0,c1,c2,c3,c4,c5,c6⟩,-⟩:=box7v HB.out;go_wp2_with fail
 clear c0 c1 c2 c3 c4 c5 c6;go_loopw[21] (fun i wr=>∃k:Nat,k≤m∧i=.int .i64 k∧Hid ((rws.take k).all (M.rowIs ⟨nm,ag,rt⟩)=true∧Ext w2 wr)) (fun i _=>m-(intOf i).toNat)
 case atStart=>exact⟨0,Nat.zero_le _,rfl,by simp,Ext.refl _⟩
 case round=>
  obtain⟨k,hk,rfl,hR⟩:=hrel;have HT:=hid hR.out.1;have E:=hid hR.out.2;clear hR;have HBr:=hid (HB.out.up E.out);have Ew:=hid (E2.out.trans E.out);rcases Nat.lt_or_ge k m with hlt|hge
  ·have hlt':(k:Int)<(m:Int):=by omega
   obtain⟨r,hr⟩:∃r,rws[k]?=some r:=⟨_,List.getElem?_eq_getElem (by rw[HM.out];exact hlt)⟩;obtain⟨ad,C,p,q,D,dn,dc,rfl,⟨r0,r1,r2,r3⟩,hvl,hnum⟩:=(HW.out.up Ew.out).get hr;have HX:=hid hr;obtain⟨a1,ha1⟩:∃b,M.vIss r.1 ag=b:=⟨_,rfl⟩;obtain⟨a2,ha2⟩:∃b,M.vIs r.2 rt=b:=⟨_,rfl⟩;have HQ:=hid (show M.rowIs ⟨nm,ag,rt⟩ r=(a1&&a2) by rw[←ha1,←ha2];rfl);have HC1:=hid (show ∀w',Ext wr w'→Calls Tryz.prog 154 #[.slice C p q,.slice A n c,sortedFun] w' (GivesB w' a1) from fun w' e=>ha1▸equalVI_n (hvl.up e) (HI.out.up (Ew.out.trans e)));have HC2:=hid (show ∀w',Ext wr w'→Calls Tryz.prog 153 #[vv r.2.1 r.2.2.1 D dn dc,.int .i64 rt] w' (GivesB w' a2) from fun w' e=>ha2▸sorted_v (x:=r.2) ⟨D,dn,dc,rfl,LNum.up hnum e⟩);have EB:=hid (Ext.alloc wr (.cells #[.slice C p q,.int .i64 r.2.1,.bool r.2.2.1,.slice D dn dc] 69));have HRB:=hid (Box.new wr #[.slice C p q,.int .i64 r.2.1,.bool r.2.2.1,.slice D dn dc] 69);obtain⟨⟨b0,bb1,bb2,bb3⟩,-⟩:=box4v HRB.out;obtain⟨⟨c0,c1,c2,c3,c4,c5,c6⟩,-⟩:=box7v (HBr.out.up EB.out);clear hr ha1 ha2 hvl hnum;cases a1
   ·have HF:=hid (show R=false by rw[HRR.out];exact M.not_all HX.out (by rw[HQ.out];rfl));go_wp2_with fail
    refine(HC1.out _ EB.out).mono ?_;rintro e w3 ⟨rfl,hx⟩;have E3:=hid ((Ew.out.trans EB.out).trans hx);clear hx r0 r1 r2 r3 b0 bb1 bb2 bb3 c0 c1 c2 c3 c4 c5 c6 HC1 HC2;go_wp2;go_ret;exact⟨by rw[HF.out];rfl,E3.out⟩
   go_wp2_with fail
   refine(HC1.out _ EB.out).mono ?_;rintro e w3 ⟨rfl,hx⟩;have E3:=hid (EB.out.trans hx);replace HRB:=hid (HRB.out.up hx);have HB3:=hid (HBr.out.up E3.out);clear hx r0 r1 r2 r3 b0 bb1 bb2 bb3 c0 c1 c2 c3 c4 c5 c6 HC1;obtain⟨⟨b0,bb1,bb2,bb3⟩,-⟩:=box4v HRB.out;obtain⟨⟨c0,c1,c2,c3,c4,c5,c6⟩,-⟩:=box7v HB3.out;cases a2
   ·have HF:=hid (show R=false by rw[HRR.out];exact M.not_all HX.out (by rw[HQ.out];rfl));go_wp2_with fail
    refine(HC2.out _ E3.out).mono ?_;rintro e w4 ⟨rfl,hx⟩;have E4:=hid ((Ew.out.trans E3.out).trans hx);clear hx b0 bb1 bb2 bb3 c0 c1 c2 c3 c4 c5 c6 HC2;go_wp2;go_ret;exact⟨by rw[HF.out];rfl,E4.out⟩
   go_wp2_with fail
   refine(HC2.out _ E3.out).mono ?_;rintro e w4 ⟨rfl,hx⟩;have E4:=hid ((E.out.trans E3.out).trans hx);clear hx b0 bb1 bb2 bb3 c0 c1 c2 c3 c4 c5 c6 HC2;go_wp2_with fail
   go_roundw
   case rel=>exact⟨k+1,by omega,by simp,by rw[M.all_take HX.out,HT.out,HQ.out];rfl,E4.out⟩
   case measure=>simp[intOf];omega
  ·obtain rfl:k=m:=by omega
   have HF:=hid (show R=true by have h1:=HT.out;rw[←HM.out,List.take_length] at h1;rw[HRR.out,h1]);go_wp2;go_ret;exact⟨by rw[HF.out];rfl,Ew.out⟩
theorem FnList.at_ {w:World}{A:Option Addr}{n c:Nat}{l:List M.Fn}(h:FnList w l (.slice A n c)){k:Nat}{f:M.Fn}(hk:l[k]?=some f):
 ∃ad A1 n1 c1 B m d N nn nc,A=some ad∧((w.cell? (ad.add (k*7))=some (str f.sg.name)∧w.cell? ⟨(ad.add (k*7)).block,(ad.add (k*7)).off+1,none⟩=some (.slice A1 n1 c1)∧w.cell? ⟨(ad.add (k*7)).block,(ad.add (k*7)).off+2,none⟩=some (.int .i64 f.sg.ret))∧w.cell? ⟨(ad.add (k*7)).block,(ad.add (k*7)).off+3,none⟩=some (.slice B m d)
  ∧ w.cell? ⟨(ad.add (k*7)).block,(ad.add (k*7)).off+4,none⟩=some (.int .i64 f.els.1)∧w.cell? ⟨(ad.add (k*7)).block,(ad.add (k*7)).off+5,none⟩=some (.bool f.els.2.1)∧w.cell? ⟨(ad.add (k*7)).block,(ad.add (k*7)).off+6,none⟩=some (.slice N nn nc))
  ∧ IsFn w f (fv f.sg.name A1 n1 c1 f.sg.ret B m d f.els.1 f.els.2.1 N nn nc):=by
 obtain⟨ad,A1,n1,c1,B,m,d,N,nn,nc,ha,hc,h1,h2,h3⟩:=h.get hk;exact⟨ad,A1,n1,c1,B,m,d,N,nn,nc,ha,hc,A1,n1,c1,B,m,d,N,nn,nc,rfl,h1,h2,h3⟩
set_option maxHeartbeats 8000000 in
theorem is_v {l:List M.Fn}{v:Value}{w:World}(h:FnList w l v)(hl:∀f∈l,f.sg.name.length≤1000000000000): Calls Tryz.prog 75 #[v] w (GivesB w (M.mIs l)):=by
 obtain⟨A,c,rfl⟩:=h.shape;obtain⟨hn,hl2,hl3⟩:=h.le;obtain⟨n,hn'⟩:∃n,l.length=n:=⟨_,rfl⟩;rw[hn'] at h hl2 ⊢;obtain⟨R,hRR⟩:∃R,M.mIs l=R:=⟨_,rfl⟩;rw[hRR];have HRR:=hid hRR;have HL:=hid h;have HN:=hid hn';have HM:=hid hl;clear h hl hRR hn' hn;go_enter Tryz.func75,Tryz.ntmps75
 go_wp2_with fail
 go_loopw[7] (fun i wr=>∃k:Nat,k≤n∧i=.int .i64 k∧Hid ((∀j,j<k→M.okAt l j=true)∧Ext w wr)) (fun i _=>n-(intOf i).toNat)
 case atStart=>exact⟨0,Nat.zero_le _,rfl,fun j hj=>absurd hj (Nat.not_lt_zero _),Ext.refl _⟩
 case round=>
  obtain⟨k,hk,rfl,hR⟩:=hrel;have HT:=hid hR.out.1;have E:=hid hR.out.2;clear hR;rcases Nat.lt_or_ge k n with hlt|hge
  ·have hlt':(k:Int)<(n:Int):=by omega
   obtain⟨f,hf⟩:∃f,l[k]?=some f:=⟨_,List.getElem?_eq_getElem (by rw[HN.out];exact hlt)⟩;obtain⟨ad,A1,n1,c1,B,m,d,N,nn,nc,rfl,⟨⟨r0,r1,r2⟩,r3,r4,r5,r6⟩,hfn⟩:=(HL.out.up E.out).at_ hf;obtain⟨b,hb⟩:∃b,M.fnIs f=b:=⟨_,rfl⟩;have HC:=hid (show ∀w',Ext wr w'→Calls Tryz.prog 116 #[fv f.sg.name A1 n1 c1 f.sg.ret B m d f.els.1 f.els.2.1 N nn nc] w' (GivesB w' b) from fun w' e=>hb▸sound_v (hfn.up e) (HM.out f (List.mem_of_getElem? hf)));have HF:=hid hf;have HBQ:=hid hb;have EB:=hid (Ext.alloc wr (.cells #[str f.sg.name,.slice A1 n1 c1,.int .i64 f.sg.ret,.slice B m d,.int .i64 f.els.1,.bool f.els.2.1,.slice N nn nc] 65));have HB0:=hid (Box.new wr #[str f.sg.name,.slice A1 n1 c1,.int .i64 f.sg.ret,.slice B m d,.int .i64 f.els.1,.bool f.els.2.1,.slice N nn nc] 65);clear hf hb hfn;go_upto_region 4 with (fail)
   refine vwp_at (fun W=>Box W wr.heap.size #[str f.sg.name,.slice A1 n1 c1,.int .i64 f.sg.ret,.slice B m d,.int .i64 f.els.1,.bool f.els.2.1,.slice N nn nc] 65∧Ext wr W) ⟨HB0.out,EB.out⟩ ?_;clear HB0 EB r0 r1 r2 r3 r4 r5 r6;intro W ⟨hb0,he⟩;obtain⟨g0,hg0⟩:∃g,wr.heap.size=g:=⟨_,rfl⟩;rw[hg0] at hb0 ⊢;have HB:=hid hb0;have EW:=hid he;clear hb0 he hg0;rcases Nat.eq_zero_or_pos k with h0|h0
   ·have HQ:=hid (show M.okAt l k=b by rw[M.okAt_some HF.out,HBQ.out,decide_eq_true h0,Bool.true_or,Bool.true_and]);subst h0;refine wp_region_D [(0,0),(1,0),(2,0),(3,0),(4,0),(5,0),(6,0),(7,0),(8,0),(9,0),(10,0),(11,0),(12,0),(13,0),(14,0),(15,0),(16,0),(17,1),(18,0),(19,0)] fun wd hb=>?_;replace EW:=hid (EW.out.trans hb);replace HB:=hid (HB.out.up hb);clear hb;refine WE.p 12 (.int .i64 0) ?_;simp only[pX];refine WE.p 13 (.bool false) ?_;simp only[pX];refine WE.p 14 (.bool false) ?_;simp only[pX];refine WE.s 15 ?_;simp only[pX];refine WE.s 16 ?_;simp only[pX];refine WE.s 17 ?_;simp only[pX];refine WE.s 18 ?_;simp only[pX];refine WE.s 19 ?_;simp only[pX];refine WE.s 20 ?_;simp only[pX];refine WE.s 21 ?_;simp only[pX];refine WE.s 22 ?_;simp only[pX];refine WE.s 23 ?_;simp only[pX];refine WE.s 24 ?_;simp only[pX];refine WE.s 25 ?_;simp only[pX];refine WE.p 26 (.bool false) ?_;simp only[pX];refine WE.p 27 (.bool false) ?_;simp only[pX];refine WE.q 28 (fv f.sg.name A1 n1 c1 f.sg.ret B m d f.els.1 f.els.2.1 N nn nc) rfl (fun w' hk=>by obtain⟨⟨x0,x1,x2,x3,x4,x5,x6⟩,-⟩:=box7v (HB.out.up hk);go_simp) ?_;simp only[pX];refine WE.c 29 ((HC.out _ EW.out).mono ?_);rintro e w2 ⟨rfl,hb⟩;refine⟨_,rfl,hb,?_⟩;replace EW:=hid (EW.out.trans hb);clear hb;simp only[pX];refine WE.p 30 (.bool (!b)) ?_;simp only[pX];refine WE.p 31 (.bool (!b)) ?_;simp only[pX];refine WE.done ?_;have Ew:=hid (E.out.trans EW.out);cases b
    ·have HFF:=hid (show R=false from HRR.out.symm.trans (M.not_mIs (by rw[HN.out];exact hlt) HQ.out));go_wp2;go_ret;exact⟨by rw[HFF.out];rfl,Ew.out⟩
    ·go_wp2_with fail
     go_roundw
     case rel => exact ⟨1, by omega, by simp, fun j hj => (by obtain rfl : j = 0 := by omega
                                                              exact HQ.out),Ew.out⟩
     case measure=>simp[intOf];omega
   ·obtain⟨kp,hkp⟩:∃kp:Nat,kp=k-1:=⟨_,rfl⟩;have hkp1:(k:Int)-1=(kp:Int):=by omega
    have hkp2:IntKind.i64.wrap (kp:Int)=(kp:Int):=by rw[IntKind.wrap_i64];omega
    have hkpn:kp<n:=by omega
    have hk0:(0:Int)<(k:Int):=by omega
    obtain⟨g,hg⟩:∃g,l[k-1]?=some g:=⟨_,List.getElem?_eq_getElem (by rw[HN.out];omega)⟩;have hg':l[kp]?=some g:=by rw[hkp];exact hg
    obtain⟨ad',A1',n1',c1',B',m',d',N',nn',nc',had,⟨⟨s0,-,-⟩,-⟩,-⟩:=(HL.out.up (E.out.trans EW.out)).at_ hg';have had':ad=ad':=Option.some.inj had;rw[←had'] at s0;have HS0:=hid s0;obtain⟨q,hq⟩:∃q,Go.Op.bytesLess g.sg.name f.sg.name=q:=⟨_,rfl⟩;have HQ:=hid (show M.okAt l k=(q&&b) by rw[M.okAt_some HF.out,HBQ.out,hg,decide_eq_false (show ¬k=0 by omega),Bool.false_or];rw[←hq]);have HBL:=hid hq;clear hkp hg hg' s0 had had' hq;refine wp_region_D [(0,0),(1,0),(2,0),(3,0),(4,0),(5,0),(6,0),(7,0),(8,0),(9,0),(10,0),(11,0),(12,0),(13,0),(14,0),(15,0),(16,0),(17,1),(18,0),(19,0)] fun wd hb=>?_;replace EW:=hid (EW.out.trans hb);replace HB:=hid (HB.out.up hb);replace HS0:=hid (hb.cell HS0.out);clear hb;refine WE.p 12 (.int .i64 (k:Int)) ?_;simp only[pX];refine WE.q 13 (.bool true) rfl (fun w' hk=>by go_simp) ?_;simp only[pX];refine WE.p 14 (.bool true) ?_;simp only[pX];refine WE.p 15 (.slice (some ad) n c) ?_;simp only[pX];refine WE.p 16 (.int .i64 (k:Int)) ?_;simp only[pX];refine WE.q 17 (.int .i64 (kp:Int)) rfl (fun w' hk=>by go_simp) ?_;simp only[pX];refine WE.q 18 (.pointer (some (ad.add (kp*7)))) rfl (fun w' hk=>by have hkpn':(kp:Int)<(n:Int):=(by omega);go_simp) ?_;simp only[pX];refine WE.q 19 (.pointer (some (ad.add (kp*7)))) rfl (fun w' hk=>by go_simp) ?_;simp only[pX];refine WE.q 20 (.pointer (some (ad.add (kp*7)))) rfl (fun w' hk=>by go_simp) ?_;simp only[pX];refine WE.q 21 (str g.sg.name) rfl (fun w' hk=>by have x0:=hk.cell HS0.out;go_simp) ?_;simp only[pX];refine WE.p 22 (.pointer (some ⟨g0,0,none⟩)) ?_;simp only[pX];refine WE.p 23 (.pointer (some ⟨g0,0,none⟩)) ?_;simp only[pX];refine WE.q 24 (str f.sg.name) rfl (fun w' hk=>by obtain⟨⟨x0,x1,x2,x3,x4,x5,x6⟩,-⟩:=box7v (HB.out.up hk);go_simp) ?_;simp only[pX];refine WE.q 25 (.bool (!q)) rfl (fun w' hk=>by have hq:=HBL.out;go_simp) ?_;simp only[pX];refine WE.q 26 (.bool (!q)) rfl (fun w' hk=>by go_simp) ?_;simp only[pX];refine WE.p 27 (.bool (!q)) ?_;simp only[pX];cases q
    ·refine WE.s 28 ?_;simp only[pX];refine WE.t 29 ?_;simp only[pX];refine WE.s 30 ?_;simp only[pX];refine WE.p 31 (.bool true) ?_;simp only[pX];refine WE.done ?_;have Ew:=hid (E.out.trans EW.out);have HFF:=hid (show R=false from HRR.out.symm.trans (M.not_mIs (by rw[HN.out];exact hlt) (by rw[HQ.out];rfl)));go_wp2;go_ret;exact⟨by rw[HFF.out];rfl,Ew.out⟩
    ·refine WE.q 28 (fv f.sg.name A1 n1 c1 f.sg.ret B m d f.els.1 f.els.2.1 N nn nc) rfl (fun w' hk=>by obtain⟨⟨x0,x1,x2,x3,x4,x5,x6⟩,-⟩:=box7v (HB.out.up hk);go_simp) ?_;simp only[pX];refine WE.c 29 ((HC.out _ EW.out).mono ?_);rintro e w2 ⟨rfl,hb⟩;refine⟨_,rfl,hb,?_⟩;replace EW:=hid (EW.out.trans hb);clear hb;simp only[pX];refine WE.p 30 (.bool (!b)) ?_;simp only[pX];refine WE.p 31 (.bool (!b)) ?_;simp only[pX];refine WE.done ?_;have Ew:=hid (E.out.trans EW.out);rw[Bool.true_and] at HQ;cases b
     ·have HFF:=hid (show R=false from HRR.out.symm.trans (M.not_mIs (by rw[HN.out];exact hlt) HQ.out));go_wp2;go_ret;exact⟨by rw[HFF.out];rfl,Ew.out⟩
     ·clear hkp1 hkp2 hkpn;go_wp2_with fail
      go_roundw
      case rel=>exact⟨k+1,by omega,by simp,fun j hj=>(by
       rcases Nat.lt_or_ge j k with h|h
       ·exact HT.out j h
       ·obtain rfl:j=k:=by omega
        exact HQ.out),Ew.out⟩
      case measure=>simp[intOf];omega
  ·obtain rfl:k=n:=by omega
   have HFF:=hid (show R=true from HRR.out.symm.trans (M.mIs_true.2 (by rw[HN.out];exact HT.out)));go_wp2;go_ret;exact⟨by rw[HFF.out];rfl,E.out⟩
theorem read_v {l:List M.Fn}{v:Value}{w:World}(h:FnList w l v)(hl:∀f∈l,f.sg.name.length≤1000000000000): Calls Tryz.prog 77 #[v] w (fun e w'=>∃u,e=.returned u∧FnList w (M.mRead l) u∧Ext w w'):=by
 have HC:=hid (is_v h hl);obtain⟨A,c,rfl⟩:=h.shape;obtain⟨n,hn⟩:∃n,l.length=n:=⟨_,rfl⟩;rw[hn] at h HC ⊢;have HL:=hid h;obtain⟨b,hb⟩:∃b,M.mIs l=b:=⟨_,rfl⟩;rw[hb] at HC;have HM:=hid (show M.mRead l=if b=true then l else[] by unfold M.mRead;rw[hb]);clear h hn hb;cases b
 ·go_enter Tryz.func77,Tryz.ntmps77
  go_wp2_with fail
  refine HC.out.mono ?_;rintro e w' ⟨rfl,hx⟩;have E:=hid hx;clear hx HC;go_wp2;go_ret;exact⟨_,rfl,by rw[HM.out];exact FnList.nil _,E.out⟩
 ·go_enter Tryz.func77,Tryz.ntmps77
  go_wp2_with fail
  refine HC.out.mono ?_;rintro e w' ⟨rfl,hx⟩;have E:=hid hx;clear hx HC;go_wp2;go_ret;exact⟨_,rfl,by rw[HM.out];exact HL.out,E.out⟩
end Go.Proofs.YtoenjbkmiphhoaaGreatDoor.Q
