/-
  Package term, mathematics: the table of the operators' rules.
-/
import Derived.Test.YtoenjbkmiphhoaaGreatDoorA20
import Derived.Test.YtoenjbkmiphhoaaGreatDoorA08
namespace Go.Proofs.YtoenjbkmiphhoaaGreatDoor.Q
set_option linter.unusedSimpArgs false
set_option linter.unusedVariables false
namespace M
def rulesC:List Int:=[0,0,0,0,0,0,0,0,0,0,0,0,0,0,0,0,0,0,0,0,0,0,0,0,0,1,1,1,1,1,1,9223372036854775807,1,1,1,1,9223372036854775807,1,1,1,2,2,1,1,1,2,2,1,1,1,2,2,0,0,1,1,9223372036854775807,0,0,1,3,3,1,0,0,1,9223372036854775807,2,2,2,1,9223372036854775807,2,2,2,2,2,2,2,2,2,2,2,2,2,2,2,2,2,2,1,1,2,2,2,2,2,2,2,1,2,2,2,2,1,2,2,2,2,1,2,2,2,2,1]
def rl (op:Int)(i:Nat): Int:=rulesC.getD (op.toNat*5+i) 0
def meantM (s:Int)(l:List Tm): Int:=if s=0 then (kat l (l.length-1)).sort else s
def rsorted (op:Int)(l:List Tm): Bool:=decide ((kat l 0).sort=meantM (rl op 2) l)&&l.tail.all fun t=>decide (t.sort=meantM (rl op 3) l)
theorem counts_eq {op:Int}(h:5≤op∧op≤22){n:Nat}(hn:n≤9223372036854775807): (decide (rl op 0≤(n:Int))&&decide ((n:Int)≤rl op 1))=kargs op n:=by
 rcases kops h with rfl|rfl|rfl|rfl|rfl|rfl|rfl|rfl|rfl|rfl|rfl|rfl|rfl|rfl|rfl|rfl|rfl|rfl
 all_goals
  simp[rl,rulesC,kargs]
  try rw[Bool.eq_iff_iff]
  try simp
  try omega
theorem kat_last {x:Tm}{r:List Tm}: kat (x::r) ((x::r).length-1)∈x::r:=by
 unfold kat;rw[List.getD_eq_getElem?_getD,List.getElem?_eq_getElem (by simp)];exact List.getElem_mem _
theorem sorted_eq {op:Int}(h:5≤op∧op≤22){l:List Tm}(ha:kargs op l.length=true): rsorted op l=ksorted op l:=by
 have hl:=kargs_len ha;rcases l with _|⟨x,r⟩
 ·simp at hl
 have key:∀s:Int,s≠0→(decide ((kat (x::r) 0).sort=meantM s (x::r))&&(x::r).tail.all fun t=>decide (t.sort=meantM s (x::r)))=kall (x::r) s:=fun s hs=>by
  unfold meantM kall;rw[if_neg hs];rfl
 have keyl:(decide ((kat (x::r) 0).sort=meantM 0 (x::r))&&(x::r).tail.all fun t=>decide (t.sort=meantM 0 (x::r)))=kall (x::r) (kat (x::r) 0).sort:=by
  unfold meantM kall;rw[if_pos rfl];obtain⟨y,hy⟩:∃y,kat (x::r) ((x::r).length-1)=y:=⟨_,rfl⟩;have hm:=kat_last (x:=x) (r:=r);rw[hy] at hm ⊢;show (decide (x.sort=y.sort)&&r.all fun t=>decide (t.sort=y.sort))=(x::r).all fun t=>decide (t.sort=x.sort)
  by_cases hxy:x.sort=y.sort
  ·simp[hxy]
  ·rw[decide_eq_false hxy,Bool.false_and,eq_comm,List.all_eq_false];exact⟨y,hm,by simpa using fun e=>hxy e.symm⟩
 by_cases h12:op=12
 ·subst h12;obtain⟨-,h3,-⟩:=hl;have h3':=h3 rfl
  match r,h3' with
  | [y,z],_=>simp[rsorted,rl,rulesC,meantM,ksorted,kat]
 ·have h2:(op=10∨op=11)∨¬(op=10∨op=11):=Decidable.em _;rcases h2 with h2|h2
  ·have e1:ksorted op (x::r)=kall (x::r) (kat (x::r) 0).sort:=by
    unfold ksorted;rw[if_neg (by omega),if_neg (by omega),if_pos h2]
   rw[e1,←keyl];rcases h2 with rfl|rfl<;>rfl
  ·rcases (show (op=5∨op=6∨op=7∨op=8∨op=9)∨13≤op by omega) with h5|h5
   ·have e1:ksorted op (x::r)=kall (x::r) 1:=by unfold ksorted;rw[if_pos h5]
    rw[e1,←key 1 (by decide)];rcases h5 with rfl|rfl|rfl|rfl|rfl<;>rfl
   ·have e1:ksorted op (x::r)=kall (x::r) 2:=by
     unfold ksorted;rw[if_neg (by omega),if_neg (by omega),if_neg (by omega)]
    rw[e1,←key 2 (by decide)];rcases kops h with rfl|rfl|rfl|rfl|rfl|rfl|rfl|rfl|rfl|rfl|rfl|rfl|rfl|rfl|rfl|rfl|rfl|rfl
    all_goals first|(exfalso;omega)|rfl
theorem own_eq {op:Int}(h:5≤op∧op≤22){l:List Tm}(ha:kargs op l.length=true)(hs:ksorted op l=true): meantM (rl op 4) l=kres op l:=by
 by_cases h12:op=12
 ·subst h12;obtain⟨-,h3,-⟩:=kargs_len ha
  match l,h3 rfl with
  | [x,y,z],_=>
   simp[ksorted,kat] at hs;simp[rl,rulesC,meantM,kres,kat,hs.2]
 ·rcases kops h with rfl|rfl|rfl|rfl|rfl|rfl|rfl|rfl|rfl|rfl|rfl|rfl|rfl|rfl|rfl|rfl|rfl|rfl
  all_goals first|(exfalso;exact h12 rfl)|(simp[rl,rulesC,meantM,kres])
theorem rl_last {op:Int}(h:5≤op∧op≤22)(i:Nat)(hi:i<5): rulesC[op.toNat*5+i]?=some (rl op i):=by
 unfold rl;rw[List.getD_eq_getElem?_getD];have hlt:op.toNat*5+i<rulesC.length:=by show _<115;omega
 rw[List.getElem?_eq_getElem hlt];rfl
end M
open Go.RowKit
def Tab (w:World): Prop:=∀k x,M.rulesC[k]?=some x→w.cell? ⟨0,k,none⟩=some (.int .i64 x)
theorem Tab.up {w w':World}(h:Tab w)(e:Ext w w'): Tab w':=fun k x hk=>e.cell (h k x hk)
theorem Tab.five {w:World}(h:Tab w){op:Int}(ho:5≤op∧op≤22){j:Nat}(hj:op.toNat=j):
 w.cell? ⟨0,j*5,none⟩=some (.int .i64 (M.rl op 0))∧w.cell? ⟨0,j*5+1,none⟩=some (.int .i64 (M.rl op 1))∧w.cell? ⟨0,j*5+2,none⟩=some (.int .i64 (M.rl op 2))∧w.cell? ⟨0,j*5+3,none⟩=some (.int .i64 (M.rl op 3))∧w.cell? ⟨0,j*5+4,none⟩=some (.int .i64 (M.rl op 4)):=by
 subst hj;exact⟨h _ _ (M.rl_last ho 0 (by decide)),h _ _ (M.rl_last ho 1 (by decide)),h _ _ (M.rl_last ho 2 (by decide)),h _ _ (M.rl_last ho 3 (by decide)),h _ _ (M.rl_last ho 4 (by decide))⟩
abbrev rv (a b c d e:Int): Value:=.agg #[.int .i64 a,.int .i64 b,.int .i64 c,.int .i64 d,.int .i64 e]
theorem ruled_n (op:Int)(w:World): Calls Tryz.prog 171 #[.int .i64 op] w (GivesB w (decide (5≤op∧op≤22))):=by
 by_cases h5:5≤op
 ·rw[show decide (5≤op∧op≤22)=decide (op≤22) by simp[h5]];go_enter Tryz.func171,Tryz.ntmps171
  go_wp2;go_ret;exact⟨rfl,Ext.refl _⟩
 ·have hq:decide (5≤op)=false:=by simpa using h5
  rw[show decide (5≤op∧op≤22)=false by simp[h5]];clear h5;go_enter Tryz.func171,Tryz.ntmps171
  go_wp2;go_ret;exact⟨rfl,Ext.refl _⟩
theorem counts_n (a b c d e:Int)(A:Option Addr)(n cc:Nat)(w:World): Calls Tryz.prog 172 #[rv a b c d e,.slice A n cc] w (GivesB w (decide (a≤(n:Int))&&decide ((n:Int)≤b))):=by
 by_cases h5:a≤(n:Int)
 ·rw[decide_eq_true h5,Bool.true_and];go_enter Tryz.func172,Tryz.ntmps172
  go_wp2;go_ret;exact⟨rfl,Ext.alloc _ _⟩
 ·have hq:decide (a≤(n:Int))=false:=by simpa using h5
  rw[hq,Bool.false_and];clear h5;go_enter Tryz.func172,Tryz.ntmps172
  go_wp2;go_ret;exact⟨rfl,Ext.alloc _ _⟩
theorem meant_n (s:Int){l:List M.Tm}{v:Value}{w:World}(h:Tms w l v)(hne:0<l.length): Calls Tryz.prog 209 #[.int .i64 s,v] w (GivesN w (M.meantM s l)):=by
 obtain⟨A,c,rfl⟩:=h.shape;obtain⟨hl1,hl2,hl3⟩:=h.le;obtain⟨n,hn⟩:∃n,l.length=n:=⟨_,rfl⟩;rw[hn] at h hl2 hne ⊢
 by_cases hs:s=0
 ·subst hs;obtain⟨p,hp⟩:∃p,n-1=p:=⟨_,rfl⟩;have hnp:(n:Int)-1=(p:Int):=by omega
  have hpn:p<n:=by omega
  have hpn':(p:Int)<(n:Int):=by omega
  have hw:IntKind.i64.wrap (p:Int)=(p:Int):=by rw[IntKind.wrap_i64];omega
  obtain⟨ad,u,N',nn',nc',B,d,rfl,hu,⟨c0,c1,c2,c3,c4,c5⟩,hv⟩:=h.get hpn;have HR:=hid (show M.meantM 0 l=u.sort by unfold M.meantM;rw[if_pos rfl,hn,hp,M.kat_of hu]);rw[HR.out];clear hu hv hn hp hl1 h;go_enter Tryz.func209,Tryz.ntmps209
  go_wp2;go_ret;exact⟨rfl,Ext.refl _⟩
 ·have hq:(s==0)=false:=by simpa using hs
  have HR:=hid (show M.meantM s l=s by unfold M.meantM;rw[if_neg hs]);rw[HR.out];clear hs h hn hl1;go_enter Tryz.func209,Tryz.ntmps209
  go_wp2;go_ret;exact⟨rfl,Ext.refl _⟩
theorem own_n (a b c d e:Int){l:List M.Tm}{v:Value}{w:World}(h:Tms w l v)(hne:0<l.length): Calls Tryz.prog 175 #[rv a b c d e,v] w (GivesN w (M.meantM e l)):=by
 obtain⟨A,cc,rfl⟩:=h.shape;have HC:=hid (show ∀w',Ext w w'→Calls Tryz.prog 209 #[.int .i64 e,.slice A l.length cc] w' (GivesN w' (M.meantM e l)) from fun w' x=>meant_n e (h.up x) hne);obtain⟨n,hn⟩:∃n,l.length=n:=⟨_,rfl⟩;obtain⟨z,hz⟩:∃z,M.meantM e l=z:=⟨_,rfl⟩;rw[hz] at HC ⊢;rw[hn] at HC ⊢;clear h hne hn hz;go_enter Tryz.func175,Tryz.ntmps175
 go_wp2_with fail
 refine(HC.out _ (Ext.alloc w _)).mono ?_;rintro e w' ⟨rfl,hb⟩;have E:=hid ((Ext.alloc w _).trans hb);clear hb;go_wp2;go_ret;exact⟨rfl,E.out⟩
theorem info_tm8:(Tryz.prog.info? 27).map (fun i=>(i.zero,i.size,i.bytes))=some (some (.agg #[.int .i64 0,.bool false,.slice none 0 0,.string ⟨#[]⟩,.int .i64 0,.slice none 0 0]),6,88):=by kernel_rfl
theorem slice_fromT {A:Option Addr}{n c k:Nat}(hk:k≤n)(w:World):
 (Instr.slice 25 (.slice A n c) (some (.int .i64 (k:Int))) none none).run Tryz.prog w=.ok (.slice (if c=k then A else A.map (·.add (k*6))) (n-k) (c-k)) w:=by
 obtain⟨i0,hi,hz0,hz1,hz2⟩:=info_parts info_tm8;simp[Instr.slice,run_underlying Tryz.underlying25,Instr.sliceBounds,run_sliceBound,sizeOf,typeInfo,hi,hz1,hk]
theorem Tms.from_ {w:World}{l:List M.Tm}{A:Option Addr}{n c k:Nat}(h:Tms w l (.slice A n c))(hk:k≤n): Tms w (l.drop k) (.slice (if c=k then A else A.map (·.add (k*6))) (n-k) (c-k)):=by
 obtain⟨A',n',c',e,h2,h3,h4,h5⟩:=h.at_;injection e with e1 e2 e3;subst e1 e2 e3;refine Tms.mk_ ⟨_,_,_,rfl,by rw[List.length_drop];omega,by omega,by omega,fun hne=>?_⟩;obtain⟨ad,ha,hb,hc⟩:=h5 (by intro e;subst e;simp at hne);have hc0:c≠k:=by
  intro e
  apply hne
  apply List.eq_nil_of_length_eq_zero
  rw[List.length_drop];omega
 rw[if_neg hc0,ha];refine⟨_,rfl,by show (ad.add (k*6)).block<_;unfold Addr.add;split<;>exact hb,fun j s hj=>?_⟩;rw[List.getElem?_drop] at hj;have:=hc _ s hj
 rwa [Addr.add_add,←Nat.add_mul]
theorem box5b {w:World}{k:Nat}{x0 x1 x2 x3 x4:Value}{T:TypeId}(h:Box w k #[x0,x1,x2,x3,x4] T): w.cell? ⟨k,0,none⟩=some x0∧w.cell? ⟨k,1,none⟩=some x1∧w.cell? ⟨k,2,none⟩=some x2∧w.cell? ⟨k,3,none⟩=some x3∧w.cell? ⟨k,4,none⟩=some x4:=⟨h.k 0,h.k 1,h.k 2,h.k 3,h.k 4⟩
set_option maxHeartbeats 4000000 in
theorem sorted_n (a b c d e:Int){l:List M.Tm}{v:Value}{w:World}(h:Tms w l v)(hne:0<l.length): Calls Tryz.prog 173 #[rv a b c d e,v] w (GivesB w (decide ((M.kat l 0).sort=M.meantM c l)&&l.tail.all fun t=>decide (t.sort=M.meantM d l))):=by
 obtain⟨A,cc,rfl⟩:=h.shape;obtain⟨hl1,hl2,hl3⟩:=h.le;have HM:=hid (show ∀s w',Ext w w'→Calls Tryz.prog 209 #[.int .i64 s,.slice A l.length cc] w' (GivesN w' (M.meantM s l)) from fun s w' x=>meant_n s (h.up x) hne);obtain⟨n,hn⟩:∃n,l.length=n:=⟨_,rfl⟩;rw[hn] at h hl2 hne HM ⊢;obtain⟨ad,N0,nn0,nc0,B0,d0,rfl,⟨c0,c1,c2,c3,c4,c5⟩,hv0⟩:=h.at0 hne;obtain⟨y1,hy1⟩:∃y,M.meantM c l=y:=⟨_,rfl⟩;obtain⟨y2,hy2⟩:∃y,M.meantM d l=y:=⟨_,rfl⟩;obtain⟨x0,hx0⟩:∃y,(M.kat l 0).sort=y:=⟨_,rfl⟩;have H1:=hid (show ∀w',Ext w w'→Calls Tryz.prog 209 #[.int .i64 c,.slice (some ad) n cc] w' (GivesN w' y1) from fun w' x=>hy1▸HM.out c w' x);have H2:=hid (show ∀w',Ext w w'→Calls Tryz.prog 209 #[.int .i64 d,.slice (some ad) n cc] w' (GivesN w' y2) from fun w' x=>hy2▸HM.out d w' x);rw[hx0] at c4 ⊢;rw[hy1,hy2];have HB:=hid (Box.new w #[.int .i64 a,.int .i64 b,.int .i64 c,.int .i64 d,.int .i64 e] 190);have HT:=hid (h.from_ (k:=1) (by omega));have hsl:=slice_fromT (A:=some ad) (n:=n) (c:=cc) (k:=1) (by omega);rw[List.drop_one] at HT;obtain⟨A1,hA1⟩:∃A1,(if cc=1 then some ad else (some ad:Option Addr).map (·.add (1*6)))=A1:=⟨_,rfl⟩;obtain⟨p,hp⟩:∃p,n-1=p:=⟨_,rfl⟩;obtain⟨c1',hc1⟩:∃p,cc-1=p:=⟨_,rfl⟩;rw[hA1,hp,hc1] at HT hsl;have HSL:=hid (show ∀w,(Instr.slice 25 (.slice (some ad) n cc) (some (.int .i64 1)) none none).run Tryz.prog w=.ok (.slice A1 p c1') w from fun w=>hsl w);have HLN:=hid (show l.tail.length=p by rw[List.length_tail,hn,hp]);have hpm:p≤9223372036854775807:=by omega
 have hn0:0<(n:Int):=by omega
 have C4:=hid c4;obtain⟨L,hL⟩:∃L,l.tail=L:=⟨_,rfl⟩;rw[hL] at HT HLN ⊢;clear h hn hx0 hy1 hy2 HM c0 c1 c2 c3 c4 c5 hv0 hsl hA1 hp hc1 hl1 hL
 by_cases hxy:x0=y1
 case neg=>
  have hq:(x0 != y1)=true:=by simpa using hxy
  rw[decide_eq_false hxy,Bool.false_and];clear hxy;go_enter Tryz.func173,Tryz.ntmps173
  go_wp2_with fail
  refine wp_region_D [(0,0),(1,0),(2,0),(3,0),(4,0),(5,0),(6,0),(7,1),(8,0)] fun wd hb=>?_;have E:=hid ((Ext.alloc w _).trans hb);replace HB:=hid (HB.out.up hb);clear hb;refine WE.p 8 (.slice (some ad) n cc) ?_;simp only[pX];refine WE.p 9 (.pointer (some ad)) ?_;simp only[pX];refine WE.p 10 (.pointer (some ⟨ad.block,ad.off+4,none⟩)) ?_;simp only[pX];refine WE.q 11 (.int .i64 x0) rfl (fun w' hk=>by have ce:=(E.out.trans hk).cell C4.out;go_simp) ?_;simp only[pX];refine WE.p 12 (.pointer (some ⟨w.heap.size,2,none⟩)) ?_;simp only[pX];refine WE.q 13 (.int .i64 c) rfl (fun w' hk=>by have ce:=(HB.out.up hk).k 2;go_simp) ?_;simp only[pX];refine WE.p 14 (.slice (some ad) n cc) ?_;simp only[pX];refine WE.c 15 ((H1.out _ E.out).mono ?_);rintro e1 w1 ⟨rfl,hb⟩;replace E:=hid (E.out.trans hb);refine⟨_,rfl,hb,?_⟩;clear hb;simp only[pX];refine WE.p 16 (.bool true) ?_;simp only[pX];refine WE.done ?_;go_wp2_with fail
  go_ret;exact⟨rfl,E.out⟩
 case pos=>
  subst hxy;rw[decide_eq_true rfl,Bool.true_and];go_enter Tryz.func173,Tryz.ntmps173
  go_wp2_with fail
  refine wp_region_D [(0,0),(1,0),(2,0),(3,0),(4,0),(5,0),(6,0),(7,1),(8,0)] fun wd hb=>?_;have E:=hid ((Ext.alloc w _).trans hb);replace HB:=hid (HB.out.up hb);clear hb;refine WE.p 8 (.slice (some ad) n cc) ?_;simp only[pX];refine WE.p 9 (.pointer (some ad)) ?_;simp only[pX];refine WE.p 10 (.pointer (some ⟨ad.block,ad.off+4,none⟩)) ?_;simp only[pX];refine WE.q 11 (.int .i64 x0) rfl (fun w' hk=>by have ce:=(E.out.trans hk).cell C4.out;go_simp) ?_;simp only[pX];refine WE.p 12 (.pointer (some ⟨w.heap.size,2,none⟩)) ?_;simp only[pX];refine WE.q 13 (.int .i64 c) rfl (fun w' hk=>by have ce:=(HB.out.up hk).k 2;go_simp) ?_;simp only[pX];refine WE.p 14 (.slice (some ad) n cc) ?_;simp only[pX];refine WE.c 15 ((H1.out _ E.out).mono ?_);rintro e1 w1 ⟨rfl,hb⟩;replace E:=hid (E.out.trans hb);replace HB:=hid (HB.out.up hb);refine⟨_,rfl,hb,?_⟩;clear hb;simp only[pX];refine WE.p 16 (.bool false) ?_;simp only[pX];refine WE.done ?_;obtain⟨a0,a1,a2,a3,a4⟩:=box5b HB.out;go_wp2_with fail
  refine(H2.out _ E.out).mono ?_;rintro e2 w2 ⟨rfl,hb⟩;replace E:=hid (E.out.trans hb);clear hb a0 a1 a2 a3 a4;go_upto_region 4 with (fail)
  refine wp_region_S [(0,0),(1,0),(2,0),(3,0)] fun wd hb=>?_;replace E:=hid (E.out.trans hb);clear hb;refine WE.p 21 (.slice (some ad) n cc) ?_;simp only[pX];refine WE.q 22 (.slice A1 p c1') rfl (fun w' hk=>by have hs:=HSL.out w';go_simp) ?_;simp only[pX];refine WE.p 23 (.int .i64 (p:Int)) ?_;simp only[pX];refine WE.p 24 (.int .i64 0) ?_;simp only[pX];refine WE.done ?_;go_wp2_with fail
  go_loopw[24] (fun i wr=>∃k:Nat,k≤p∧i=.int .i64 k∧Hid (((L.take k).all fun t=>decide (t.sort=y2))=true∧Ext w wr)) (fun i _=>p-(intOf i).toNat)
  case atStart=>exact⟨0,Nat.zero_le _,rfl,by simp,E.out⟩
  case round=>
   obtain⟨k,hk,rfl,hR⟩:=hrel;replace E:=hid hR.out.2;have HS:=hid hR.out.1;clear hR;rcases Nat.lt_or_ge k p with hlt|hge
   ·have hlt':(k:Int)<(p:Int):=by omega
    obtain⟨ad',u,N',nn',nc',B,d',rfl,hu,⟨c0,c1,c2,c3,c4,c5⟩,hv⟩:=(HT.out.up E.out).get hlt;have HU:=hid hu;obtain⟨s,hs⟩:∃s,u.sort=s:=⟨_,rfl⟩;rw[hs] at c4;have HSO:=hid hs;clear hu hv hs
    by_cases hsy:s=y2
    ·subst hsy;go_wp2;go_roundw
     case rel=>exact⟨k+1,by omega,by simp,by rw[List.take_add_one,HU.out,List.all_append,HS.out];simp[HSO.out],E.out.alloc' _⟩
     case measure=>simp[intOf];omega
    ·have hq:(s != y2)=true:=by simpa using hsy
     have HNE:=hid hsy;clear hsy;go_wp2;go_ret;refine⟨ret_bool ?_,E.out.alloc' _⟩;rw[eq_comm,List.all_eq_false];exact⟨u,List.mem_of_getElem? HU.out,by rw[HSO.out];simpa using HNE.out⟩
   ·obtain rfl:k=p:=by omega
    go_wp2;go_ret;refine⟨ret_bool ?_,E.out⟩;have h1:=HS.out;rw[←HLN.out,List.take_length] at h1;exact h1.symm
namespace M
def uns (t:Tm): Tm:=if t.op=14∧t.kids.length=1 then kat t.kids 0 else t
theorem uns_num (t:Tm): decide ((uns t).op=1)=(knum t).isSome:=by
 obtain⟨op,g,ls,nm,s,ks⟩:=t;unfold uns knum
 by_cases h14:op=14
 ·subst h14
  match ks with
  | []=>simp[Tm.op,Tm.kids]
  | [k]=>
   by_cases hk:k.op=1
   ·simp[Tm.op,Tm.kids,kat] at hk ⊢;simp[hk]
   ·simp[Tm.op,Tm.kids,kat] at hk ⊢;simp[hk]
  | _::_::_=>simp[Tm.op,Tm.kids]
 ·by_cases h1:op=1
  ·subst h1;simp[Tm.op,Tm.kids]
  ·simp[Tm.op,Tm.kids,h14,h1]
theorem uns_zero {t:Tm}{z:Int}(h:knum t=some z): ((uns t).zv=0↔z=0):=by
 obtain⟨op,g,ls,nm,s,ks⟩:=t;unfold uns;unfold knum at h
 by_cases h1:op=1
 ·subst h1;simp[Tm.op,Tm.kids] at h ⊢;rw[←h]
 ·by_cases h14:op=14
  ·subst h14
   match ks,h with
   | [],h=>simp[Tm.op,Tm.kids] at h
   | [k],h=>
    obtain⟨o,gk,lk,nk,sk,kk⟩:=k
    by_cases hk:o=1
    ·subst hk;simp[Tm.op,Tm.kids] at h;simp[Tm.op,Tm.kids,kat];omega
    ·simp[Tm.op,Tm.kids,hk] at h
   | _::_::_,h=>simp[Tm.op,Tm.kids] at h
  ·exfalso;simp[Tm.op,h1,h14] at h
end M
set_option maxHeartbeats 4000000 in
theorem unsigned_n {t:M.Tm}{v:Value}{w:World}(h:IsTm w t v): Calls Tryz.prog 212 #[v] w (GivesT1 w (M.uns t)):=by
 have H:=hid h;obtain⟨op,g,ls,nm,so,ks⟩:=t;obtain⟨N,nn,nc,A,c,rfl,hn,hk⟩:=h;replace hk:Tms w ks (.slice A ks.length c):=hk;show Calls Tryz.prog 212 #[kv op g N nn nc nm so A ks.length c] w _;obtain⟨n,hn'⟩:∃n,ks.length=n:=⟨_,rfl⟩;rw[hn'] at hk ⊢
 by_cases h1:op=14∧n=1
 case neg=>
  have HR:=hid (show M.uns (.mk op g ls nm so ks)=.mk op g ls nm so ks by unfold M.uns;rw[if_neg (by rw[←hn'] at h1;exact h1)]);rw[HR.out];have HV:=hid (show IsTm w (.mk op g ls nm so ks) (kv op g N nn nc nm so A n c) from⟨N,nn,nc,A,c,by rw[←hn'];rfl,hn,by rw[show (M.Tm.mk op g ls nm so ks).kids.length=n from hn'];exact hk⟩);clear H hk hn hn' HR;rcases (show op≠14∨(op=14∧n≠1) by omega) with h2|⟨h2,h3⟩
  ·have hq:(op==14)=false:=by simpa using h2
   clear h1 h2;go_enter Tryz.func212,Tryz.ntmps212
   go_wp2_with fail
   refine bodyPost_ret (v:=kv op g N nn nc nm so A n c) (by simp[results,Tryz.results212,go_sem]) rfl ?_;exact⟨_,rfl,HV.out.up ((Ext.alloc w _).alloc' _),(Ext.alloc w _).alloc' _⟩
  ·subst h2;have hq:((n:Int)==1)=false:=by simp;omega
   clear h1 h3;go_enter Tryz.func212,Tryz.ntmps212
   go_wp2_with fail
   refine bodyPost_ret (v:=kv 14 g N nn nc nm so A n c) (by simp[results,Tryz.results212,go_sem]) rfl ?_;exact⟨_,rfl,HV.out.up ((Ext.alloc w _).alloc' _),(Ext.alloc w _).alloc' _⟩
 case pos=>
  obtain⟨rfl,rfl⟩:=h1;obtain⟨ad,u,N',nn',nc',B,d,rfl,hu,⟨c0,c1,c2,c3,c4,c5⟩,hv⟩:=hk.get (k:=0) (by omega);have HR:=hid (show M.uns (.mk 14 g ls nm so ks)=u by
   unfold M.uns;rw[if_pos ⟨rfl,hn'⟩];exact M.kat_of hu)
  rw[HR.out];have HV:=hid hv;have hz:ad.add (0*6)=ad:=by rw[Nat.zero_mul];rfl
  rw[hz] at c0 c1 c2 c3 c4 c5;have E2:=fun (o o':Obj)=>(Ext.alloc w o).alloc' o';have d0:=fun o o'=>(E2 o o').cell c0;have d1:=fun o o'=>(E2 o o').cell c1;have d2:=fun o o'=>(E2 o o').cell c2;have d3:=fun o o'=>(E2 o o').cell c3;have d4:=fun o o'=>(E2 o o').cell c4;have d5:=fun o o'=>(E2 o o').cell c5;clear H hk hn hn' HR hu hv;go_enter Tryz.func212,Tryz.ntmps212
  go_wp2_with fail
  refine bodyPost_ret (v:=kv u.op u.g N' nn' nc' u.name u.sort B u.kids.length d) (by simp[results,Tryz.results212,go_sem]) rfl ?_;exact⟨_,rfl,HV.out.up ((Ext.alloc w _).alloc' _),(Ext.alloc w _).alloc' _⟩
theorem field_op (v0 v1 v2 v3 v4 v5:Value)(w:World): (Instr.field 27 (.agg #[v0,v1,v2,v3,v4,v5]) 0).run Tryz.prog w=.ok v0 w:=by kernel_rfl
theorem field_N (v0 v1 v2 v3 v4 v5:Value)(w:World): (Instr.field 27 (.agg #[v0,v1,v2,v3,v4,v5]) 1).run Tryz.prog w=.ok (.agg #[v1,v2]) w:=by kernel_rfl
set_option maxHeartbeats 4000000 in
theorem number_n {t:M.Tm}{v:Value}{w:World}(h:IsTm w t v): Calls Tryz.prog 211 #[v] w (GivesB w (M.knum t).isSome):=by
 rw[←M.uns_num];obtain⟨N,nn,nc,A,n,c,rfl,-,-,-,-,-,-⟩:=h.shape;have HC:=hid (show ∀w',Ext w w'→Calls Tryz.prog 212 #[kv t.op t.g N nn nc t.name t.sort A n c] w' (GivesT1 w' (M.uns t)) from fun w' e=>unsigned_n (h.up e));obtain⟨op,hop⟩:∃x,t.op=x:=⟨_,rfl⟩;obtain⟨g,hg⟩:∃x,t.g=x:=⟨_,rfl⟩;obtain⟨nm,hnm⟩:∃x,t.name=x:=⟨_,rfl⟩;obtain⟨so,hso⟩:∃x,t.sort=x:=⟨_,rfl⟩;rw[hop,hg,hnm,hso] at HC ⊢;obtain⟨u,hu⟩:∃u,M.uns t=u:=⟨_,rfl⟩;rw[hu] at HC ⊢;clear h hop hg hnm hso hu;go_enter Tryz.func211,Tryz.ntmps211
 go_upto_region 1 with (fail)
 refine wp_region_S [(0,0),(1,1),(2,0),(3,0),(4,0)] fun wd hb=>?_;have E:=hid ((Ext.alloc w _).trans hb);have HB:=hid ((Box.new w #[.int .i64 op,.bool g,.slice N nn nc,str nm,.int .i64 so,.slice A n c] 27).up hb);clear hb;refine WE.q 3 (kv op g N nn nc nm so A n c) rfl (fun w' hk=>by obtain⟨⟨a0,a1,a2,a3,a4,a5⟩,-,-⟩:=boxF6 (HB.out.up hk);go_simp) ?_;simp only[pX];refine WE.c 4 ((HC.out _ E.out).mono ?_);rintro e w1 ⟨v1,rfl,hv,hb⟩;replace E:=hid (E.out.trans hb);obtain⟨N1,nn1,nc1,A1,n1,c1,rfl,-,-,-,-,-,-⟩:=hv.shape;refine⟨_,rfl,hb,?_⟩;clear hb hv;simp only[pX];refine WE.q 5 (.int .i64 u.op) rfl (fun w' hk=>by have hf:=fun w=>field_op (.int .i64 u.op) (.bool u.g) (.slice N1 nn1 nc1) (str u.name) (.int .i64 u.sort) (.slice A1 n1 c1) w;go_simp) ?_;simp only[pX];obtain⟨q,hq⟩:∃q,decide (u.op=1)=q:=⟨_,rfl⟩;have hq2:(u.op==1)=q:=by rw[dec_eqI,hq]
 have HQ:=hid hq;clear hq;refine WE.p 6 (.bool q) ?_;simp only[pX];refine WE.p 2 (.bool q) ?_;simp only[pX];refine WE.done ?_;go_wp2_with fail
 go_ret;exact⟨ret_bool HQ.out.symm,E.out⟩
abbrev numberFun:Value:=.func (.func 211) #[] #[]
def M.isNum1 (t:M.Tm): Bool:=(M.knum t).isSome
set_option maxHeartbeats 4000000 in
theorem indexT_n {v:Value}{l:List M.Tm}{w:World}(h:Tms w l v): Calls Tryz.prog 236 #[v,numberFun] w (fun e w'=>∃z:Int,e=.returned (.int .i64 z)∧Hid (decide (0≤z)=l.any M.isNum1)∧Ext w w'):=by
 obtain⟨A,c,rfl⟩:=h.shape;obtain⟨hl1,hl2,hl3⟩:=h.le;obtain⟨n,hn⟩:∃n,l.length=n:=⟨_,rfl⟩;rw[hn] at h hl2 ⊢;have HR:=hid h;have HN:=hid hn;have hb:n≤9223372036854775807:=by omega
 clear h hn hl1;go_enter Tryz.func236,Tryz.ntmps236
 go_wp2_with fail
 go_loopw[8] (fun i wr=>∃k:Nat,k≤n∧i=.int .i64 k∧Hid ((l.take k).any M.isNum1=false∧Ext w wr)) (fun i _=>n-(intOf i).toNat)
 case atStart=>exact⟨0,Nat.zero_le _,rfl,by simp,Ext.refl _⟩
 case round=>
  obtain⟨k,hk,rfl,hR⟩:=hrel;have E:=hid hR.out.2;have HS:=hid hR.out.1;clear hR;rcases Nat.lt_or_ge k n with hlt|hge
  ·have hlt':(k:Int)<(n:Int):=by omega
   obtain⟨ad,u,N',nn',nc',B,d,rfl,hu,⟨c0,c1,c2,c3,c4,c5⟩,hv⟩:=(HR.out.up E.out).get hlt;have HX:=hid hu;have HC:=hid (number_n hv);obtain⟨q,hq⟩:∃q,(M.knum u).isSome=q:=⟨_,rfl⟩;rw[hq] at HC;have HQ:=hid (show M.isNum1 u=q from hq);clear hu hv hq;cases q
   ·go_wp2_with (go_at_call 211;refine HC.out.mono ?_;rintro e w' ⟨rfl,hb⟩;replace E:=hid (E.out.trans hb);clear hb)
    go_roundw
    case rel=>exact⟨k+1,by omega,by simp,by rw[List.take_add_one,HX.out,List.any_append,HS.out];simp[HQ.out],E.out⟩
    case measure=>simp[intOf];omega
   ·go_wp2_with (go_at_call 211;refine HC.out.mono ?_;rintro e w' ⟨rfl,hb⟩;replace E:=hid (E.out.trans hb);clear hb)
    go_ret;refine⟨_,rfl,?_,E.out⟩;show decide (0≤(k:Int))=l.any M.isNum1;rw[decide_eq_true (by omega),eq_comm,List.any_eq_true];exact⟨u,List.mem_of_getElem? HX.out,HQ.out⟩
  ·obtain rfl:k=n:=by omega
   go_wp2;go_ret;refine⟨_,rfl,?_,E.out⟩;have h1:=HS.out;rw[←HN.out,List.take_length] at h1;show decide ((0:Int)≤-1)=l.any M.isNum1;rw[h1];rfl
theorem containsT_n {v:Value}{l:List M.Tm}{w:World}(h:Tms w l v): Calls Tryz.prog 210 #[v,numberFun] w (GivesB w (l.any M.isNum1)):=by
 obtain⟨A,c,rfl⟩:=h.shape;obtain⟨n,hn⟩:∃n,l.length=n:=⟨_,rfl⟩;have HC:=hid (indexT_n h);obtain⟨q,hq⟩:∃q,l.any M.isNum1=q:=⟨_,rfl⟩;rw[hq] at HC ⊢;rw[hn] at HC ⊢;clear h hn hq;go_enter Tryz.func210,Tryz.ntmps210
 go_wp2_with fail
 refine HC.out.mono ?_;rintro e w' ⟨z,rfl,hz,hb⟩;have HZ:=hid hz.out;have E:=hid hb;clear hz hb;go_wp2;go_ret;exact⟨ret_bool HZ.out,E.out⟩
set_option maxHeartbeats 8000000 in
theorem linear_n {op:Int}(h:5≤op∧op≤22){l:List M.Tm}{v:Value}{w:World}(ht:Tms w l v)(ha:M.kargs op l.length=true): Calls Tryz.prog 174 #[.int .i64 op,v] w (GivesN w (M.klin op l)):=by
 obtain⟨A,c,rfl⟩:=ht.shape;obtain⟨hl1,hl2,hl3⟩:=ht.le;have hlen:=kargs_len ha;have HC:=hid (containsT_n ht);obtain⟨n,hn'⟩:∃n,l.length=n:=⟨_,rfl⟩;rw[hn'] at ht hl2 hlen HC ⊢;obtain⟨hn1,-,hn2⟩:=hlen
 by_cases h15:op=15
 ·subst h15;obtain rfl:=hn2 (by omega);have hr:M.klin 15 l=if l.any M.isNum1=true then 0 else 19:=by
   match l,hn' with
   | [a,b],_=>
    unfold M.klin M.isNum1;simp[M.kat];cases M.knum a<;>cases M.knum b<;>simp
  rw[hr];obtain⟨q,hq⟩:∃q,l.any M.isNum1=q:=⟨_,rfl⟩;rw[hq] at HC ⊢;clear ht ha hl1 hl2 hn' hr hq hn1 hn2 h;cases q
  ·go_enter Tryz.func174,Tryz.ntmps174
   go_wp2_with (go_at_call 210;refine HC.out.mono ?_;rintro e w1 ⟨rfl,hb⟩;have E:=hid hb;clear hb)
   go_ret;exact⟨rfl,E.out⟩
  ·go_enter Tryz.func174,Tryz.ntmps174
   go_wp2_with (go_at_call 210;refine HC.out.mono ?_;rintro e w1 ⟨rfl,hb⟩;have E:=hid hb;clear hb)
   go_ret;exact⟨rfl,E.out⟩
 have hq15:(op==15)=false:=by simpa using h15
 by_cases h16:op=16∨op=17
 case neg=>
  have hr:M.klin op l=0:=by unfold M.klin;rw[if_neg h15,if_neg h16]
  rw[hr];have hq16:(op != 16)=true:=by simp;omega
  have hq17:(op != 17)=true:=by simp;omega
  clear ht ha hl1 hl2 hn' hr hn1 hn2 h h15 h16 HC;go_enter Tryz.func174,Tryz.ntmps174
  go_wp2;go_ret;exact⟨rfl,Ext.refl _⟩
 case pos=>
  obtain rfl:=hn2 (.inr h16);obtain⟨ad,N0,nn0,nc0,B0,d0,rfl,-,-⟩:=ht.at0 (by omega);obtain⟨N1,nn1,nc1,B1,d1,⟨p0,p1,p2,p3,p4,p5⟩,hv⟩:=ht.at1 (k:=1) (m:=6) rfl (by omega) (by omega);obtain⟨u,hu⟩:∃u,M.kat l 1=u:=⟨_,rfl⟩;rw[hu] at p0 p1 p3 p4 p5 hv;have HNum:=hid (show ∀w',Ext w w'→Calls Tryz.prog 211 #[kv u.op u.g N1 nn1 nc1 u.name u.sort B1 u.kids.length d1] w' (GivesB w' (M.knum u).isSome) from fun w' e=>number_n (hv.up e));have HU:=hid (show ∀w',Ext w w'→Calls Tryz.prog 212 #[kv u.op u.g N1 nn1 nc1 u.name u.sort B1 u.kids.length d1] w' (GivesT1 w' (M.uns u)) from fun w' e=>unsigned_n (hv.up e));have hr:M.klin op l=(match M.knum u with|none=>19|some z=>if z=0 then 12 else 0):=by unfold M.klin;rw[if_neg h15,if_pos h16,hu];rcases M.knum u with _|z<;>rfl
  rw[hr];have P:=hid (show _∧_∧_∧_∧_∧_ from⟨p0,p1,p2,p3,p4,p5⟩);clear ht ha hl1 hl2 hn' hr hn1 hn2 h h15 HC hu hv;rcases hk:M.knum u with _|z
  ·rw[hk] at HNum;clear hk;replace HNum:=hid (show ∀w',Ext w w'→Calls Tryz.prog 211 #[kv u.op u.g N1 nn1 nc1 u.name u.sort B1 u.kids.length d1] w' (GivesB w' false) from HNum.out);rcases h16 with rfl|rfl
   all_goals
    go_enter Tryz.func174,Tryz.ntmps174
    go_wp2_with (go_at_call 211;refine(HNum.out _ (Ext.refl _)).mono ?_;rintro e w1 ⟨rfl,hb⟩;have E:=hid hb;clear hb)
    go_ret;exact⟨rfl,E.out⟩
  ·rw[hk] at HNum;have HZ:=hid (M.uns_zero hk);clear hk;replace HNum:=hid (show ∀w',Ext w w'→Calls Tryz.prog 211 #[kv u.op u.g N1 nn1 nc1 u.name u.sort B1 u.kids.length d1] w' (GivesB w' true) from HNum.out);show Calls _ _ _ _ (GivesN w (if z=0 then 12 else 0));obtain⟨x,hx⟩:∃x,M.uns u=x:=⟨_,rfl⟩;rw[hx] at HU HZ;clear hx;obtain⟨q,hq⟩:∃q,decide (z=0)=q:=⟨_,rfl⟩;have HQ:=hid (show (x.zv.sign==0)=q by
    rw[dec_eqI,←hq,decide_eq_decide,←HZ.out];exact Int.sign_eq_zero_iff_zero)
   obtain⟨r,hr2⟩:∃r,(if z=0 then (12:Int) else 0)=r:=⟨_,rfl⟩;rw[hr2];have HRF:=hid (show q=false→(0:Int)=r by
    intro h;subst h;rw[←hr2,if_neg (by simpa using hq)])
   have HRT:=hid (show q=true→(12:Int)=r by
    intro h;subst h;rw[←hr2,if_pos (by simpa using hq)])
   clear hq HZ hr2;have step:∀op:Int,(op=16∨op=17)→Calls Tryz.prog 174 #[.int .i64 op,.slice (some ad) 2 c] w (GivesN w r):=by
    intro op h16;rcases h16 with rfl|rfl
    all_goals
     go_enter Tryz.func174,Tryz.ntmps174
     obtain⟨p0,p1,p2,p3,p4,p5⟩:=P.out;go_wp2_with fail
     refine(HNum.out _ (Ext.refl _)).mono ?_;rintro e w1 ⟨rfl,hb⟩;have E:=hid hb;clear hb p0 p1 p2 p3 p4 p5;go_upto_region 7 with (fail)
     refine wp_region_S [(0,0),(1,0),(2,0),(3,1),(4,0),(5,1),(6,0),(7,0)] fun wd hb=>?_;replace E:=hid (E.out.trans hb);clear hb;refine WE.p 27 (.slice (some ad) 2 c) ?_;simp only[pX];refine WE.p 28 (.pointer (some ⟨ad.block,ad.off+6,none⟩)) ?_;simp only[pX];refine WE.q 29 (kv u.op u.g N1 nn1 nc1 u.name u.sort B1 u.kids.length d1) rfl (fun w' hk=>by
      obtain⟨p0,p1,p2,p3,p4,p5⟩:=P.out;have e:=E.out.trans hk;replace p0:=e.cell p0;replace p1:=e.cell p1;replace p2:=e.cell p2;replace p3:=e.cell p3;replace p4:=e.cell p4;replace p5:=e.cell p5;go_simp) ?_
     simp only[pX];refine WE.c 30 ((HU.out _ E.out).mono ?_);rintro e w2 ⟨v2,rfl,hv2,hb⟩;replace E:=hid (E.out.trans hb);obtain⟨N2,nn2,nc2,A2,n2,c2,rfl,-,-,-,-,-,-⟩:=hv2.shape;have HW:=hid (show Worth w2 (.agg #[.bool x.g,.slice N2 nn2 nc2]) x.zv x.ls.length from worth_tm hv2.num.1);refine⟨_,rfl,hb,?_⟩;clear hb hv2;simp only[pX];refine WE.q 31 (.agg #[.bool x.g,.slice N2 nn2 nc2]) rfl (fun w' hk=>by have hf:=fun w=>field_N (.int .i64 x.op) (.bool x.g) (.slice N2 nn2 nc2) (str x.name) (.int .i64 x.sort) (.slice A2 n2 c2) w;go_simp) ?_;simp only[pX];refine WE.c 32 ((sign_w HW.out).mono ?_);rintro e w3 ⟨rfl,hb⟩;replace E:=hid (E.out.trans hb);refine⟨_,rfl,hb,?_⟩;clear hb;simp only[pX];have hq:=HQ.out;refine WE.p 33 (.bool q) ?_;simp only[pX];refine WE.p 26 (.bool q) ?_;simp only[pX];refine WE.done ?_;clear hq;cases q
     ·go_wp2_with fail
      go_ret;exact⟨ret_int (HRF.out (by simp)),E.out⟩
     ·go_wp2_with fail
      go_ret;exact⟨ret_int (HRT.out (by simp)),E.out⟩
   exact step op h16
namespace M
theorem nil0_eq (g:Bool)(ls:List Nat): (M.isZ g ls&&decide (M.zv g ls=0))=decide (g=false∧ls=[]):=by
 rw[Bool.eq_iff_iff];simp only[Bool.and_eq_true,decide_eq_true_eq];constructor
 ·rintro⟨h1,h2⟩;have h3:=M.limbs_zv h1;rw[h2] at h3;have h4:ls=[]:=by rw[←h3];exact limbs0
  subst h4;refine⟨?_,rfl⟩;cases g
  ·rfl
  ·exact absurd h1 (by decide)
 ·rintro⟨rfl,rfl⟩;exact⟨isZ_nil,zv_nil⟩
def fitsM (op:Int)(g:Bool)(ls:List Nat)(nm:List UInt8)(s:Int)(ks:List Tm): Bool:=
 if op=1 then M.isZ g ls&&(decide (ks.length=0)&&(decide (nm=[])&&decide (s=2)))
 else if op=2∨op=3 then decide (ks.length=0)&&(decide (g=false∧ls=[])&&(decide (nm=[])&&decide (s=1)))
 else if op=4 then ksig ⟨nm,ks.map Tm.sort,s⟩&&decide (g=false∧ls=[])
 else decide (5≤op∧op≤22)&&(kargs op ks.length&&(ksorted op ks&&(decide (klin op ks=0)&&(decide (g=false∧ls=[])&&(decide (nm=[])&&decide (s=kres op ks))))))
theorem kis_sort (t:Tm): kis t=true→t.sort=1∨t.sort=2:=by
 refine Tm.indA (P:=fun t=>kis t=true→t.sort=1∨t.sort=2) (fun op g ls nm s ks ih h=>?_) t;show s=1∨s=2;rw[kis,Bool.and_eq_true] at h;obtain⟨hk,hh⟩:=h;unfold khead at hh
 split at hh
 ·simp at hh;omega
 ·split at hh
  ·simp at hh;omega
  ·split at hh
   ·simp at hh;omega
   ·simp only[Bool.and_eq_true,decide_eq_true_eq] at hh;obtain⟨-,-,h1,h2,-,h3⟩:=hh;rw[h3];unfold kres
    split
    ·exact .inr rfl
    ·split
     ·rename_i h12
      subst h12;have h4:=(kargs_len h2).2.1 rfl;obtain⟨u,hu⟩:∃u,ks[1]?=some u:=⟨_,List.getElem?_eq_getElem (by omega)⟩;rw[kat_of hu];exact ih 1 u hu (kiss_at hk hu)
     ·exact .inl rfl
theorem kiss_sorts {ks:List Tm}(h:kiss ks=true): ((ks.map Tm.sort).all fun a=>decide (a=1∨a=2))=true:=by
 rw[List.all_eq_true];intro a ha;obtain⟨t,ht,rfl⟩:=List.mem_map.1 ha;obtain⟨k,hk⟩:=List.getElem?_of_mem ht;simpa using kis_sort t (kiss_at h hk)
theorem fits_eq {op:Int}{g:Bool}{ls:List Nat}{nm:List UInt8}{s:Int}{ks:List Tm}(hk:kiss ks=true)(hc:kcnts ks≤399): fitsM op g ls nm s ks=khead op g ls nm s ks:=by
 have hnm:nm.isEmpty=decide (nm=[]):=by cases nm<;>simp
 have hks:ks.isEmpty=decide (ks.length=0):=by cases ks<;>simp
 unfold fitsM khead;rw[nil0_eq,hnm,hks]
 split
 ·cases M.isZ g ls<;>cases decide (ks.length=0)<;>cases decide (nm=[])<;>cases decide (s=2)<;>rfl
 ·split
  ·cases decide (g=false∧ls=[])<;>cases decide (ks.length=0)<;>cases decide (nm=[])<;>cases decide (s=1)<;>rfl
  ·split
   ·unfold ksig;rw[kiss_sorts hk,List.length_map];show (true&&(isSym nm&&(decide (ks.length≤3)&&decide (s=1∨s=2)))&&decide (g=false∧ls=[]))=_;cases decide (g=false∧ls=[])<;>cases isSym nm<;>cases decide (ks.length≤3)<;>cases decide (s=1∨s=2)<;>rfl
   ·have h1:decide (kcheck op ks=0)=(ksorted op ks&&decide (klin op ks=0)):=by
     unfold kcheck;rcases hs:ksorted op ks with _|_
     ·simp
     ·by_cases hl:klin op ks=0
      ·simp[hl];omega
      ·simp[hl]
    rw[h1];cases decide (g=false∧ls=[])<;>cases decide (nm=[])<;>cases decide (5≤op∧op≤22)<;>cases kargs op ks.length<;>cases ksorted op ks<;>cases decide (klin op ks=0)<;>cases decide (s=kres op ks)<;>rfl
end M
set_option maxHeartbeats 16000000 in
set_option maxRecDepth 100000 in
theorem fits_n {t:M.Tm}{v:Value}{w:World}(h:IsTm w t v)(htab:Tab w)(hlen:t.kids.length≤1000000)(hnl:t.name.length≤1000000000000): Calls Tryz.prog 134 #[v] w (GivesB w (M.fitsM t.op t.g t.ls t.name t.sort t.kids)):=by
 have hh:=h;obtain⟨op,g,ls,nm,so,ks⟩:=t;obtain⟨N,nn,nc,A,c,rfl,hn,hk⟩:=h;replace hk:Tms w ks (.slice A ks.length c):=hk;replace hn:LNum w (.slice N nn nc) ls:=hn;replace hlen:ks.length≤1000000:=hlen;replace hnl:nm.length≤1000000000000:=hnl;show Calls Tryz.prog 134 #[kv op g N nn nc nm so A ks.length c] w (GivesB w (M.fitsM op g ls nm so ks));replace hh:IsTm w (.mk op g ls nm so ks) (kv op g N nn nc nm so A ks.length c):=hh;obtain⟨hl1,hl2,hl3⟩:=hk.le;have HI:=hid (show ∀w',Ext w w'→Calls Tryz.prog 146 #[.agg #[.bool g,.slice N nn nc]] w' (GivesB w' (M.isZ g ls)) from fun w' e=>wIs_any (hn.up e) rfl);have HH:=hid (show ∀(op':Int) (g':Bool) (N':Option Addr) (nn' nc':Nat) (nm':List UInt8) (so':Int) (ls':List Nat) w',Ext w w'→LNum w' (.slice N' nn' nc') ls'→Calls Tryz.prog 169 #[kv op g N nn nc nm so A ks.length c,kv op' g' N' nn' nc' nm' so' none 0 0] w' (GivesB w' (decide (op=op')&&(decide (g=g'∧ls=ls')&&(decide (nm=nm')&&decide (so=so'))))) from fun op' g' N' nn' nc' nm' so' ls' w' e hl=>sameHead_n (hn.up e) hl);have HG:=hid (show ∀w',Ext w w'→Calls Tryz.prog 170 #[kv op g N nn nc nm so A ks.length c] w' (GivesSg w' ⟨nm,ks.map M.Tm.sort,so⟩) from fun w' e=>sig_n (hh.up e) hlen hnl);have HC:=hid (show ∀a b c1 d e1 w',Calls Tryz.prog 172 #[rv a b c1 d e1,.slice A ks.length c] w' (GivesB w' (decide (a≤(ks.length:Int))&&decide ((ks.length:Int)≤b))) from fun a b c1 d e1 w'=>counts_n a b c1 d e1 A ks.length c w');have HS:=hid (show 0<ks.length→∀a b c1 d e1 w',Ext w w'→Calls Tryz.prog 173 #[rv a b c1 d e1,.slice A ks.length c] w' (GivesB w' (decide ((M.kat ks 0).sort=M.meantM c1 ks)&&ks.tail.all fun t=>decide (t.sort=M.meantM d ks))) from fun hp a b c1 d e1 w' e=>sorted_n a b c1 d e1 (hk.up e) hp);have HO:=hid (show 0<ks.length→∀a b c1 d e1 w',Ext w w'→Calls Tryz.prog 175 #[rv a b c1 d e1,.slice A ks.length c] w' (GivesN w' (M.meantM e1 ks)) from fun hp a b c1 d e1 w' e=>own_n a b c1 d e1 (hk.up e) hp);have HL:=hid (show 5≤op∧op≤22→M.kargs op ks.length=true→∀w',Ext w w'→Calls Tryz.prog 174 #[.int .i64 op,.slice A ks.length c] w' (GivesN w' (M.klin op ks)) from fun h1 h2 w' e=>linear_n h1 (hk.up e) h2);have HN:=hid hn;have HNL:=hid hnl;have HT:=hid htab;obtain⟨z,hz⟩:∃z,M.fitsM op g ls nm so ks=z:=⟨_,rfl⟩;rw[hz];unfold M.fitsM at hz;have hlm:=hl3;obtain⟨n,hn'⟩:∃n,ks.length=n:=⟨_,rfl⟩;have hmp:(ks.map M.Tm.sort).length=n:=by rw[List.length_map,hn']
 rw[hn'] at HH HG HC HS HO HL hz hl2 ⊢;have HB:=hid (Box.new w #[.int .i64 op,.bool g,.slice N nn nc,str nm,.int .i64 so,.slice A n c] 27);have E:=hid (Ext.refl (kboxed w op g N nn nc nm so A n c));clear hh hk hn hlen hnl hl1 htab;rcases (show op=1∨(op=2∨op=3)∨op=4∨(op≠1∧op≠2∧op≠3∧op≠4) by omega) with hop|hop|hop|⟨ho1,ho2,ho3,ho4⟩
 ·subst hop;rw[if_pos rfl] at hz;obtain⟨q,hq⟩:∃q,M.isZ g ls=q:=⟨_,rfl⟩;rw[hq] at HI hz;clear hq HG HC HS HO HL HT;cases q
  ·have HZ:=hid (show false=z by rw[←hz];rfl);clear hz;go_enter Tryz.func134,Tryz.ntmps134
   go_wp2_with fail
   refine(HI.out _ ((Ext.alloc w _).trans E.out)).mono ?_;rintro e w' ⟨rfl,hx⟩;replace E:=hid (E.out.trans hx);obtain⟨⟨b0,b1,b2,b3,b4,b5⟩,-,-⟩:=boxF6 (HB.out.up E.out);clear hx;go_wp2_with fail
   go_ret;obtain rfl:false=z:=HZ.out;exact⟨rfl,(Ext.alloc w _).trans E.out⟩
  rw[Bool.true_and] at hz
  by_cases hn0:n=0
  case neg=>
   have hq:((n:Int)==0)=false:=by simp;omega
   have HZ:=hid (show false=z by rw[←hz,decide_eq_false hn0];rfl);clear hz hn0;go_enter Tryz.func134,Tryz.ntmps134
   go_wp2_with fail
   refine(HI.out _ ((Ext.alloc w _).trans E.out)).mono ?_;rintro e w' ⟨rfl,hx⟩;replace E:=hid (E.out.trans hx);obtain⟨⟨b0,b1,b2,b3,b4,b5⟩,-,-⟩:=boxF6 (HB.out.up E.out);clear hx;go_wp2_with fail
   go_ret;obtain rfl:false=z:=HZ.out;exact⟨rfl,(Ext.alloc w _).trans E.out⟩
  case pos=>
   subst hn0;rw[decide_eq_true rfl,Bool.true_and] at hz;have HH1:=hid (show ∀w',Ext w w'→Calls Tryz.prog 169 #[kv 1 g N nn nc nm so A 0 c,kv 1 g N nn nc [] 2 none 0 0] w' (GivesB w' z) from fun w' e=>by
    have:=HH.out 1 g N nn nc [] 2 ls w' e (HN.out.up e);rw[show (decide ((1:Int)=1)&&(decide (g=g∧ls=ls)&&(decide (nm=[])&&decide (so=2))))=z by rw[←hz];simp] at this;exact this)
   clear hz HH HN;go_enter Tryz.func134,Tryz.ntmps134
   go_wp2_with fail
   refine(HI.out _ ((Ext.alloc w _).trans E.out)).mono ?_;rintro e w' ⟨rfl,hx⟩;replace E:=hid (E.out.trans hx);obtain⟨⟨b0,b1,b2,b3,b4,b5⟩,-,-⟩:=boxF6 (HB.out.up E.out);clear hx;go_wp2_with fail
   refine(HH1.out _ ((Ext.alloc w _).trans E.out)).mono ?_;rintro e w' ⟨rfl,hx⟩;replace E:=hid (E.out.trans hx);obtain⟨⟨b0,b1,b2,b3,b4,b5⟩,-,-⟩:=boxF6 (HB.out.up E.out);clear hx;go_wp2_with fail
   go_ret;exact⟨rfl,(Ext.alloc w _).trans E.out⟩
 ·have hz2:(decide (n=0)&&(decide (g=false∧ls=[])&&(decide (nm=[])&&decide (so=1))))=z:=by rw[←hz,if_neg (by omega),if_pos hop]
  clear hz HG HC HS HO HL HT HI
  by_cases hn0:n=0
  case neg=>
   have hq:((n:Int)==0)=false:=by simp;omega
   have HZ:=hid (show false=z by rw[←hz2,decide_eq_false hn0];rfl);clear hz2 hn0 HH HN;rcases hop with rfl|rfl
   all_goals
    go_enter Tryz.func134,Tryz.ntmps134
    go_wp2_with fail
    go_ret;obtain rfl:false=z:=HZ.out;exact⟨rfl,(Ext.alloc w _).trans E.out⟩
  case pos=>
   subst hn0;rw[decide_eq_true rfl,Bool.true_and] at hz2;have HH1:=hid (show ∀w',Ext w w'→Calls Tryz.prog 169 #[kv op g N nn nc nm so A 0 c,kv op false none 0 0 [] 1 none 0 0] w' (GivesB w' z) from fun w' e=>by
    have:=HH.out op false none 0 0 [] 1 [] w' e (LNum.nil _);rw[decide_eq_true (rfl:op=op),Bool.true_and,hz2] at this;exact this)
   clear hz2 HH HN;rcases hop with rfl|rfl
   all_goals
    go_enter Tryz.func134,Tryz.ntmps134
    go_wp2_with fail
    refine(HH1.out _ ((Ext.alloc w _).trans E.out)).mono ?_;rintro e w' ⟨rfl,hx⟩;replace E:=hid (E.out.trans hx);obtain⟨⟨b0,b1,b2,b3,b4,b5⟩,-,-⟩:=boxF6 (HB.out.up E.out);clear hx;go_wp2_with fail
    go_ret;exact⟨rfl,(Ext.alloc w _).trans E.out⟩
 ·subst hop;have hz2:(M.ksig ⟨nm,ks.map M.Tm.sort,so⟩&&decide (g=false∧ls=[]))=z:=by rw[←hz,if_neg (by omega),if_neg (by omega),if_pos rfl]
  clear hz HC HS HO HL HT HI;have hnl9:=HNL.out;obtain⟨sgm,hsgm⟩:∃s:M.Sg,(⟨nm,ks.map M.Tm.sort,so⟩:M.Sg)=s:=⟨_,rfl⟩;have hsl:sgm.args.length=n:=by rw[←hsgm];exact hmp
  have hsn:sgm.name.length≤1000000000000:=by rw[←hsgm];exact hnl9
  have hsn2:sgm.name=nm:=by rw[←hsgm]
  have hsr:sgm.ret=so:=by rw[←hsgm]
  rw[hsgm] at HG hz2;have HG2:=hid (show ∀w',Ext w w'→Calls Tryz.prog 170 #[kv 4 g N nn nc nm so A n c] w' (fun e w''=>∃IA ic,e=.returned (sgv nm IA n ic so)∧IsSg w'' sgm (sgv nm IA n ic so)∧Ext w' w'') from fun w' e=>(HG.out w' e).mono fun e w'' ⟨IA,ic,h1,h2,h3⟩=>by
   rw[hsn2,hsr,hsl] at h1;rw[hsl] at h2;exact⟨IA,ic,h1,⟨IA,ic,by rw[hsn2,hsr,hsl],by rw[hsl];exact h2⟩,h3⟩)
  obtain⟨q,hq⟩:∃q,M.ksig sgm=q:=⟨_,rfl⟩;have HIS:=hid (show ∀w' IA ic,IsSg w' sgm (sgv nm IA n ic so)→Calls Tryz.prog 152 #[sgv nm IA n ic so] w' (GivesB w' q) from fun w' IA ic h=>by
   have:=isSig_t h hsn
   rwa [hq] at this)
  rw[hq] at hz2;clear HG hq hsl hsn hsn2 hsr hsgm hmp hnl9;cases q
  ·have HZ:=hid (show false=z by rw[←hz2];rfl);clear hz2 HH HN;go_enter Tryz.func134,Tryz.ntmps134
   go_wp2_with fail
   refine(HG2.out _ ((Ext.alloc w _).trans E.out)).mono ?_;rintro e w1 ⟨IA,ic,rfl,hs,hx⟩;have HS:=hid hs;replace E:=hid (E.out.trans hx);clear hx hs;go_wp2_with fail
   refine(HIS.out _ _ _ HS.out).mono ?_;rintro e w2 ⟨rfl,hx⟩;replace E:=hid (E.out.trans hx);obtain⟨⟨b0,b1,b2,b3,b4,b5⟩,-,-⟩:=boxF6 (HB.out.up E.out);clear hx;go_wp2_with fail
   go_ret;obtain rfl:false=z:=HZ.out;exact⟨rfl,(Ext.alloc w _).trans E.out⟩
  ·have HH1:=hid (show ∀w',Ext w w'→Calls Tryz.prog 169 #[kv 4 g N nn nc nm so A n c,kv 4 false none 0 0 nm so none 0 0] w' (GivesB w' z) from fun w' e=>by
    have:=HH.out 4 false none 0 0 nm so [] w' e (LNum.nil _);rw[show (decide ((4:Int)=4)&&(decide (g=false∧ls=[])&&(decide (nm=nm)&&decide (so=so))))=z by rw[←hz2];simp] at this;exact this)
   clear hz2 HH HN;go_enter Tryz.func134,Tryz.ntmps134
   go_wp2_with fail
   refine(HG2.out _ ((Ext.alloc w _).trans E.out)).mono ?_;rintro e w1 ⟨IA,ic,rfl,hs,hx⟩;have HS:=hid hs;replace E:=hid (E.out.trans hx);clear hx hs;go_wp2_with fail
   refine(HIS.out _ _ _ HS.out).mono ?_;rintro e w2 ⟨rfl,hx⟩;replace E:=hid (E.out.trans hx);obtain⟨⟨b0,b1,b2,b3,b4,b5⟩,-,-⟩:=boxF6 (HB.out.up E.out);clear hx;go_wp2_with fail
   refine(HH1.out _ ((Ext.alloc w _).trans E.out)).mono ?_;rintro e w' ⟨rfl,hx⟩;replace E:=hid (E.out.trans hx);obtain⟨⟨b0,b1,b2,b3,b4,b5⟩,-,-⟩:=boxF6 (HB.out.up E.out);clear hx;go_wp2_with fail
   go_ret;exact⟨rfl,(Ext.alloc w _).trans E.out⟩
 ·have q1:(op==1)=false:=by simpa using ho1
  have q2:(op==2)=false:=by simpa using ho2
  have q3:(op==3)=false:=by simpa using ho3
  have q4:(op==4)=false:=by simpa using ho4
  rw[if_neg ho1,if_neg (by omega),if_neg ho4] at hz;have HR:=hid (fun w'=>ruled_n op w');clear HG HI HN
  by_cases hop:5≤op∧op≤22
  case neg=>
   rw[decide_eq_false hop] at HR hz;have HZ:=hid (show false=z by rw[←hz];rfl);clear hz hop HC HS HO HL HT HH ho1 ho2 ho3 ho4;go_enter Tryz.func134,Tryz.ntmps134
   go_wp2_with fail
   refine wp_region_D [(0,0),(1,0),(2,1),(3,0),(4,0),(5,0),(6,0),(7,0),(8,0),(9,0),(10,1),(11,0),(12,0),(13,0),(14,0),(15,0),(16,0),(17,0),(18,0),(19,1),(20,0),(21,0),(22,0),(23,0),(24,0),(25,0),(26,1),(27,0),(28,0),(29,0),(30,0),(31,0),(32,0),(33,0),(34,0),(35,0),(36,0),(37,0),(38,0),(39,1),(40,0),(41,1),(42,0),(43,0)] fun wd hb=>?_;replace E:=hid (E.out.trans hb);clear hb;refine WE.p 55 (.pointer (some ⟨w.heap.size,0,none⟩)) ?_;simp only[pX];refine WE.q 56 (.int .i64 op) rfl (fun w' hk=>by have ce:=(HB.out.up (E.out.trans hk)).k 0;go_simp) ?_;simp only[pX];refine WE.c 57 ((HR.out _).mono ?_);rintro e w6 ⟨rfl,hb6⟩;refine⟨_,rfl,hb6,?_⟩;replace E:=hid (E.out.trans hb6);clear hb6;simp only[pX];refine WE.p 58 (.bool false) ?_;simp only[pX];refine WE.s 59 ?_;simp only[pX];refine WE.s 60 ?_;simp only[pX];refine WE.s 61 ?_;simp only[pX];refine WE.s 62 ?_;simp only[pX];refine WE.s 63 ?_;simp only[pX];refine WE.s 64 ?_;simp only[pX];refine WE.t 65 ?_;simp only[pX];refine WE.p 66 (.bool false) ?_;simp only[pX];refine WE.p 67 (.bool false) ?_;simp only[pX];refine WE.s 68 ?_;simp only[pX];refine WE.s 69 ?_;simp only[pX];refine WE.s 70 ?_;simp only[pX];refine WE.s 71 ?_;simp only[pX];refine WE.s 72 ?_;simp only[pX];refine WE.s 73 ?_;simp only[pX];refine WE.t 74 ?_;simp only[pX];refine WE.p 75 (.bool false) ?_;simp only[pX];refine WE.p 76 (.bool false) ?_;simp only[pX];refine WE.s 77 ?_;simp only[pX];refine WE.s 78 ?_;simp only[pX];refine WE.s 79 ?_;simp only[pX];refine WE.s 80 ?_;simp only[pX];refine WE.t 81 ?_;simp only[pX];refine WE.s 82 ?_;simp only[pX];refine WE.p 83 (.bool false) ?_;simp only[pX];refine WE.p 84 (.bool false) ?_;simp only[pX];refine WE.s 85 ?_;simp only[pX];refine WE.s 86 ?_;simp only[pX];refine WE.s 87 ?_;simp only[pX];refine WE.s 88 ?_;simp only[pX];refine WE.s 89 ?_;simp only[pX];refine WE.s 90 ?_;simp only[pX];refine WE.s 91 ?_;simp only[pX];refine WE.s 92 ?_;simp only[pX];refine WE.s 93 ?_;simp only[pX];refine WE.t 94 ?_;simp only[pX];refine WE.s 95 ?_;simp only[pX];refine WE.t 96 ?_;simp only[pX];refine WE.p 97 (.bool false) ?_;simp only[pX];refine WE.p 2 (.bool false) ?_;simp only[pX];refine WE.done ?_;go_wp2_with fail
   go_ret;obtain rfl:false=z:=HZ.out;exact⟨rfl,(Ext.alloc w _).trans E.out⟩
  case pos=>
   rw[decide_eq_true hop] at HR;rw[decide_eq_true hop,Bool.true_and] at hz;obtain⟨j,hj⟩:∃j:Nat,op=(j:Int):=⟨op.toNat,by omega⟩;obtain⟨r0,hr0⟩:∃r,M.rl op 0=r:=⟨_,rfl⟩;obtain⟨r1,hr1⟩:∃r,M.rl op 1=r:=⟨_,rfl⟩;obtain⟨r2,hr2⟩:∃r,M.rl op 2=r:=⟨_,rfl⟩;obtain⟨r3,hr3⟩:∃r,M.rl op 3=r:=⟨_,rfl⟩;obtain⟨r4,hr4⟩:∃r,M.rl op 4=r:=⟨_,rfl⟩;have RT:=hid (show ∀w',Ext (kboxed w op g N nn nc nm so A n c) w'→w'.cell? ⟨0,j*5,none⟩=some (.int .i64 r0)∧w'.cell? ⟨0,j*5+1,none⟩=some (.int .i64 r1)∧w'.cell? ⟨0,j*5+2,none⟩=some (.int .i64 r2)∧w'.cell? ⟨0,j*5+3,none⟩=some (.int .i64 r3)∧w'.cell? ⟨0,j*5+4,none⟩=some (.int .i64 r4) from fun w' e=>by
    rw[←hr0,←hr1,←hr2,←hr3,←hr4];exact(HT.out.up ((Ext.alloc w _).trans e)).five hop (by omega))
   obtain⟨qa,hqa⟩:∃q,M.kargs op n=q:=⟨_,rfl⟩;have HCC:=hid (show ∀w',Calls Tryz.prog 172 #[rv r0 r1 r2 r3 r4,.slice A n c] w' (GivesB w' qa) from fun w'=>by
    have h1:=HC.out r0 r1 r2 r3 r4 w';have h2:=M.counts_eq hop (show n≤9223372036854775807 by omega);rw[hr0,hr1,hqa] at h2
    rwa [h2] at h1)
   rw[hqa] at hz;have hjlt:(j:Int)<23:=by omega
   have hjlt2:j<23:=by omega
   have hj5:5≤j:=by omega
   cases qa
   ·have HZ:=hid (show false=z by rw[←hz];rfl);subst hj;clear hz hop HC HS HO HL HT HH ho1 ho2 ho3 ho4 hqa hr0 hr1 hr2 hr3 hr4 hmp;go_enter Tryz.func134,Tryz.ntmps134
    go_wp2_with fail
    refine wp_region_D [(0,0),(1,0),(2,1),(3,0),(4,0),(5,0),(6,0),(7,0),(8,0),(9,0),(10,1),(11,0),(12,0),(13,0),(14,0),(15,0),(16,0),(17,0),(18,0),(19,1),(20,0),(21,0),(22,0),(23,0),(24,0),(25,0),(26,1),(27,0),(28,0),(29,0),(30,0),(31,0),(32,0),(33,0),(34,0),(35,0),(36,0),(37,0),(38,0),(39,1),(40,0),(41,1),(42,0),(43,0)] fun wd hb=>?_;replace E:=hid (E.out.trans hb);clear hb;refine WE.p 55 (.pointer (some ⟨w.heap.size,0,none⟩)) ?_;simp only[pX];refine WE.q 56 (.int .i64 (j:Int)) rfl (fun w' hk=>by have ce:=(HB.out.up (E.out.trans hk)).k 0;go_simp) ?_;simp only[pX];refine WE.c 57 ((HR.out _).mono ?_);rintro e w6 ⟨rfl,hb6⟩;refine⟨_,rfl,hb6,?_⟩;replace E:=hid (E.out.trans hb6);clear hb6;simp only[pX];refine WE.p 58 (.bool true) ?_;simp only[pX];refine WE.p 59 (.pointer (some ⟨w.heap.size,0,none⟩)) ?_;simp only[pX];refine WE.q 60 (.int .i64 (j:Int)) rfl (fun w' hk=>by have ce:=(HB.out.up (E.out.trans hk)).k 0;go_simp) ?_;simp only[pX];refine WE.p 61 (.pointer (some ⟨0,j*5,none⟩)) ?_;simp only[pX];refine WE.q 62 (rv r0 r1 r2 r3 r4) rfl (fun w' hk=>by obtain⟨q0,q1,q2,q3,q4⟩:=RT.out _ (E.out.trans hk);go_simp) ?_;simp only[pX];refine WE.p 63 (.pointer (some ⟨w.heap.size,5,none⟩)) ?_;simp only[pX];refine WE.q 64 (.slice A n c) rfl (fun w' hk=>by have ce:=(HB.out.up (E.out.trans hk)).k 5;go_simp) ?_;simp only[pX];refine WE.c 65 ((HCC.out _).mono ?_);rintro e w6 ⟨rfl,hb6⟩;refine⟨_,rfl,hb6,?_⟩;replace E:=hid (E.out.trans hb6);clear hb6;simp only[pX];refine WE.p 66 (.bool false) ?_;simp only[pX];refine WE.p 67 (.bool false) ?_;simp only[pX];refine WE.s 68 ?_;simp only[pX];refine WE.s 69 ?_;simp only[pX];refine WE.s 70 ?_;simp only[pX];refine WE.s 71 ?_;simp only[pX];refine WE.s 72 ?_;simp only[pX];refine WE.s 73 ?_;simp only[pX];refine WE.t 74 ?_;simp only[pX];refine WE.p 75 (.bool false) ?_;simp only[pX];refine WE.p 76 (.bool false) ?_;simp only[pX];refine WE.s 77 ?_;simp only[pX];refine WE.s 78 ?_;simp only[pX];refine WE.s 79 ?_;simp only[pX];refine WE.s 80 ?_;simp only[pX];refine WE.t 81 ?_;simp only[pX];refine WE.s 82 ?_;simp only[pX];refine WE.p 83 (.bool false) ?_;simp only[pX];refine WE.p 84 (.bool false) ?_;simp only[pX];refine WE.s 85 ?_;simp only[pX];refine WE.s 86 ?_;simp only[pX];refine WE.s 87 ?_;simp only[pX];refine WE.s 88 ?_;simp only[pX];refine WE.s 89 ?_;simp only[pX];refine WE.s 90 ?_;simp only[pX];refine WE.s 91 ?_;simp only[pX];refine WE.s 92 ?_;simp only[pX];refine WE.s 93 ?_;simp only[pX];refine WE.t 94 ?_;simp only[pX];refine WE.s 95 ?_;simp only[pX];refine WE.t 96 ?_;simp only[pX];refine WE.p 97 (.bool false) ?_;simp only[pX];refine WE.p 2 (.bool false) ?_;simp only[pX];refine WE.done ?_;go_wp2_with fail
    go_ret;obtain rfl:false=z:=HZ.out;exact⟨rfl,(Ext.alloc w _).trans E.out⟩
   rw[Bool.true_and] at hz;obtain⟨hnp,-,-⟩:=kargs_len hqa;obtain⟨qs,hqs⟩:∃q,M.ksorted op ks=q:=⟨_,rfl⟩;have HSS:=hid (show ∀w',Ext w w'→Calls Tryz.prog 173 #[rv r0 r1 r2 r3 r4,.slice A n c] w' (GivesB w' qs) from fun w' e=>by
    have h1:=HS.out (by omega) r0 r1 r2 r3 r4 w' e;have h2:=M.sorted_eq hop (l:=ks) (by rw[hn'];exact hqa);unfold M.rsorted at h2;rw[hr2,hr3,hqs] at h2
    rwa [h2] at h1)
   rw[hqs] at hz;cases qs
   ·have HZ:=hid (show false=z by rw[←hz];rfl);subst hj;clear hz hop HC HS HO HL HT HH ho1 ho2 ho3 ho4 hqa hqs hr0 hr1 hr2 hr3 hr4 hmp;go_enter Tryz.func134,Tryz.ntmps134
    go_wp2_with fail
    refine wp_region_D [(0,0),(1,0),(2,1),(3,0),(4,0),(5,0),(6,0),(7,0),(8,0),(9,0),(10,1),(11,0),(12,0),(13,0),(14,0),(15,0),(16,0),(17,0),(18,0),(19,1),(20,0),(21,0),(22,0),(23,0),(24,0),(25,0),(26,1),(27,0),(28,0),(29,0),(30,0),(31,0),(32,0),(33,0),(34,0),(35,0),(36,0),(37,0),(38,0),(39,1),(40,0),(41,1),(42,0),(43,0)] fun wd hb=>?_;replace E:=hid (E.out.trans hb);clear hb;refine WE.p 55 (.pointer (some ⟨w.heap.size,0,none⟩)) ?_;simp only[pX];refine WE.q 56 (.int .i64 (j:Int)) rfl (fun w' hk=>by have ce:=(HB.out.up (E.out.trans hk)).k 0;go_simp) ?_;simp only[pX];refine WE.c 57 ((HR.out _).mono ?_);rintro e w6 ⟨rfl,hb6⟩;refine⟨_,rfl,hb6,?_⟩;replace E:=hid (E.out.trans hb6);clear hb6;simp only[pX];refine WE.p 58 (.bool true) ?_;simp only[pX];refine WE.p 59 (.pointer (some ⟨w.heap.size,0,none⟩)) ?_;simp only[pX];refine WE.q 60 (.int .i64 (j:Int)) rfl (fun w' hk=>by have ce:=(HB.out.up (E.out.trans hk)).k 0;go_simp) ?_;simp only[pX];refine WE.p 61 (.pointer (some ⟨0,j*5,none⟩)) ?_;simp only[pX];refine WE.q 62 (rv r0 r1 r2 r3 r4) rfl (fun w' hk=>by obtain⟨q0,q1,q2,q3,q4⟩:=RT.out _ (E.out.trans hk);go_simp) ?_;simp only[pX];refine WE.p 63 (.pointer (some ⟨w.heap.size,5,none⟩)) ?_;simp only[pX];refine WE.q 64 (.slice A n c) rfl (fun w' hk=>by have ce:=(HB.out.up (E.out.trans hk)).k 5;go_simp) ?_;simp only[pX];refine WE.c 65 ((HCC.out _).mono ?_);rintro e w6 ⟨rfl,hb6⟩;refine⟨_,rfl,hb6,?_⟩;replace E:=hid (E.out.trans hb6);clear hb6;simp only[pX];refine WE.p 66 (.bool true) ?_;simp only[pX];refine WE.p 67 (.bool true) ?_;simp only[pX];refine WE.p 68 (.pointer (some ⟨w.heap.size,0,none⟩)) ?_;simp only[pX];refine WE.q 69 (.int .i64 (j:Int)) rfl (fun w' hk=>by have ce:=(HB.out.up (E.out.trans hk)).k 0;go_simp) ?_;simp only[pX];refine WE.p 70 (.pointer (some ⟨0,j*5,none⟩)) ?_;simp only[pX];refine WE.q 71 (rv r0 r1 r2 r3 r4) rfl (fun w' hk=>by obtain⟨q0,q1,q2,q3,q4⟩:=RT.out _ (E.out.trans hk);go_simp) ?_;simp only[pX];refine WE.p 72 (.pointer (some ⟨w.heap.size,5,none⟩)) ?_;simp only[pX];refine WE.q 73 (.slice A n c) rfl (fun w' hk=>by have ce:=(HB.out.up (E.out.trans hk)).k 5;go_simp) ?_;simp only[pX];refine WE.c 74 ((HSS.out _ ((Ext.alloc w _).trans E.out)).mono ?_);rintro e w6 ⟨rfl,hb6⟩;refine⟨_,rfl,hb6,?_⟩;replace E:=hid (E.out.trans hb6);clear hb6;simp only[pX];refine WE.p 75 (.bool false) ?_;simp only[pX];refine WE.p 76 (.bool false) ?_;simp only[pX];refine WE.s 77 ?_;simp only[pX];refine WE.s 78 ?_;simp only[pX];refine WE.s 79 ?_;simp only[pX];refine WE.s 80 ?_;simp only[pX];refine WE.t 81 ?_;simp only[pX];refine WE.s 82 ?_;simp only[pX];refine WE.p 83 (.bool false) ?_;simp only[pX];refine WE.p 84 (.bool false) ?_;simp only[pX];refine WE.s 85 ?_;simp only[pX];refine WE.s 86 ?_;simp only[pX];refine WE.s 87 ?_;simp only[pX];refine WE.s 88 ?_;simp only[pX];refine WE.s 89 ?_;simp only[pX];refine WE.s 90 ?_;simp only[pX];refine WE.s 91 ?_;simp only[pX];refine WE.s 92 ?_;simp only[pX];refine WE.s 93 ?_;simp only[pX];refine WE.t 94 ?_;simp only[pX];refine WE.s 95 ?_;simp only[pX];refine WE.t 96 ?_;simp only[pX];refine WE.p 97 (.bool false) ?_;simp only[pX];refine WE.p 2 (.bool false) ?_;simp only[pX];refine WE.done ?_;go_wp2_with fail
    go_ret;obtain rfl:false=z:=HZ.out;exact⟨rfl,(Ext.alloc w _).trans E.out⟩
   rw[Bool.true_and] at hz;obtain⟨lin,hlin0⟩:∃q,M.klin op ks=q:=⟨_,rfl⟩;have HLL:=hid (show ∀w',Ext w w'→Calls Tryz.prog 174 #[.int .i64 op,.slice A n c] w' (GivesN w' lin) from fun w' e=>hlin0▸HL.out hop (by rw[hn'] at *;exact hqa) w' e);rw[hlin0] at hz
   by_cases hlz:lin=0
   case neg=>
    have HZ:=hid (show false=z by rw[←hz,decide_eq_false hlz];rfl);have hlin:(lin==0)=false:=by simpa using hlz
    subst hj;clear hz hop HC HS HO HL HT HH ho1 ho2 ho3 ho4 hqa hqs hr0 hr1 hr2 hr3 hr4 hmp hlin0 hlz;go_enter Tryz.func134,Tryz.ntmps134
    go_wp2_with fail
    refine wp_region_D [(0,0),(1,0),(2,1),(3,0),(4,0),(5,0),(6,0),(7,0),(8,0),(9,0),(10,1),(11,0),(12,0),(13,0),(14,0),(15,0),(16,0),(17,0),(18,0),(19,1),(20,0),(21,0),(22,0),(23,0),(24,0),(25,0),(26,1),(27,0),(28,0),(29,0),(30,0),(31,0),(32,0),(33,0),(34,0),(35,0),(36,0),(37,0),(38,0),(39,1),(40,0),(41,1),(42,0),(43,0)] fun wd hb=>?_;replace E:=hid (E.out.trans hb);clear hb;refine WE.p 55 (.pointer (some ⟨w.heap.size,0,none⟩)) ?_;simp only[pX];refine WE.q 56 (.int .i64 (j:Int)) rfl (fun w' hk=>by have ce:=(HB.out.up (E.out.trans hk)).k 0;go_simp) ?_;simp only[pX];refine WE.c 57 ((HR.out _).mono ?_);rintro e w6 ⟨rfl,hb6⟩;refine⟨_,rfl,hb6,?_⟩;replace E:=hid (E.out.trans hb6);clear hb6;simp only[pX];refine WE.p 58 (.bool true) ?_;simp only[pX];refine WE.p 59 (.pointer (some ⟨w.heap.size,0,none⟩)) ?_;simp only[pX];refine WE.q 60 (.int .i64 (j:Int)) rfl (fun w' hk=>by have ce:=(HB.out.up (E.out.trans hk)).k 0;go_simp) ?_;simp only[pX];refine WE.p 61 (.pointer (some ⟨0,j*5,none⟩)) ?_;simp only[pX];refine WE.q 62 (rv r0 r1 r2 r3 r4) rfl (fun w' hk=>by obtain⟨q0,q1,q2,q3,q4⟩:=RT.out _ (E.out.trans hk);go_simp) ?_;simp only[pX];refine WE.p 63 (.pointer (some ⟨w.heap.size,5,none⟩)) ?_;simp only[pX];refine WE.q 64 (.slice A n c) rfl (fun w' hk=>by have ce:=(HB.out.up (E.out.trans hk)).k 5;go_simp) ?_;simp only[pX];refine WE.c 65 ((HCC.out _).mono ?_);rintro e w6 ⟨rfl,hb6⟩;refine⟨_,rfl,hb6,?_⟩;replace E:=hid (E.out.trans hb6);clear hb6;simp only[pX];refine WE.p 66 (.bool true) ?_;simp only[pX];refine WE.p 67 (.bool true) ?_;simp only[pX];refine WE.p 68 (.pointer (some ⟨w.heap.size,0,none⟩)) ?_;simp only[pX];refine WE.q 69 (.int .i64 (j:Int)) rfl (fun w' hk=>by have ce:=(HB.out.up (E.out.trans hk)).k 0;go_simp) ?_;simp only[pX];refine WE.p 70 (.pointer (some ⟨0,j*5,none⟩)) ?_;simp only[pX];refine WE.q 71 (rv r0 r1 r2 r3 r4) rfl (fun w' hk=>by obtain⟨q0,q1,q2,q3,q4⟩:=RT.out _ (E.out.trans hk);go_simp) ?_;simp only[pX];refine WE.p 72 (.pointer (some ⟨w.heap.size,5,none⟩)) ?_;simp only[pX];refine WE.q 73 (.slice A n c) rfl (fun w' hk=>by have ce:=(HB.out.up (E.out.trans hk)).k 5;go_simp) ?_;simp only[pX];refine WE.c 74 ((HSS.out _ ((Ext.alloc w _).trans E.out)).mono ?_);rintro e w6 ⟨rfl,hb6⟩;refine⟨_,rfl,hb6,?_⟩;replace E:=hid (E.out.trans hb6);clear hb6;simp only[pX];refine WE.p 75 (.bool true) ?_;simp only[pX];refine WE.p 76 (.bool true) ?_;simp only[pX];refine WE.p 77 (.pointer (some ⟨w.heap.size,0,none⟩)) ?_;simp only[pX];refine WE.q 78 (.int .i64 (j:Int)) rfl (fun w' hk=>by have ce:=(HB.out.up (E.out.trans hk)).k 0;go_simp) ?_;simp only[pX];refine WE.p 79 (.pointer (some ⟨w.heap.size,5,none⟩)) ?_;simp only[pX];refine WE.q 80 (.slice A n c) rfl (fun w' hk=>by have ce:=(HB.out.up (E.out.trans hk)).k 5;go_simp) ?_;simp only[pX];refine WE.c 81 ((HLL.out _ ((Ext.alloc w _).trans E.out)).mono ?_);rintro e w6 ⟨rfl,hb6⟩;refine⟨_,rfl,hb6,?_⟩;replace E:=hid (E.out.trans hb6);clear hb6;simp only[pX];refine WE.q 82 (.bool false) rfl (fun w' hk=>by have hl0:=hlin;go_simp) ?_;simp only[pX];refine WE.p 83 (.bool false) ?_;simp only[pX];refine WE.p 84 (.bool false) ?_;simp only[pX];refine WE.s 85 ?_;simp only[pX];refine WE.s 86 ?_;simp only[pX];refine WE.s 87 ?_;simp only[pX];refine WE.s 88 ?_;simp only[pX];refine WE.s 89 ?_;simp only[pX];refine WE.s 90 ?_;simp only[pX];refine WE.s 91 ?_;simp only[pX];refine WE.s 92 ?_;simp only[pX];refine WE.s 93 ?_;simp only[pX];refine WE.t 94 ?_;simp only[pX];refine WE.s 95 ?_;simp only[pX];refine WE.t 96 ?_;simp only[pX];refine WE.p 97 (.bool false) ?_;simp only[pX];refine WE.p 2 (.bool false) ?_;simp only[pX];refine WE.done ?_;go_wp2_with fail
    go_ret;obtain rfl:false=z:=HZ.out;exact⟨rfl,(Ext.alloc w _).trans E.out⟩
   case pos=>
    subst hlz;rw[decide_eq_true rfl,Bool.true_and] at hz;obtain⟨own,hown⟩:∃q,M.kres op ks=q:=⟨_,rfl⟩;have HOO:=hid (show ∀w',Ext w w'→Calls Tryz.prog 175 #[rv r0 r1 r2 r3 r4,.slice A n c] w' (GivesN w' own) from fun w' e=>by
     have h1:=HO.out (by omega) r0 r1 r2 r3 r4 w' e;have h2:=M.own_eq hop (l:=ks) (by rw[hn'];exact hqa) hqs;rw[hr4,hown] at h2
     rwa [h2] at h1)
    rw[hown] at hz;have HH1:=hid (show ∀w',Ext w w'→Calls Tryz.prog 169 #[kv op g N nn nc nm so A n c,kv op false none 0 0 [] own none 0 0] w' (GivesB w' z) from fun w' e=>by
     have:=HH.out op false none 0 0 [] own [] w' e (LNum.nil _);rw[decide_eq_true (rfl:op=op),Bool.true_and,hz] at this;exact this)
    subst hj;clear hz hop HC HS HO HL HT HH ho1 ho2 ho3 ho4 hqa hqs hr0 hr1 hr2 hr3 hr4 hmp hlin0 hown;go_enter Tryz.func134,Tryz.ntmps134
    go_wp2_with fail
    refine wp_region_D [(0,0),(1,0),(2,1),(3,0),(4,0),(5,0),(6,0),(7,0),(8,0),(9,0),(10,1),(11,0),(12,0),(13,0),(14,0),(15,0),(16,0),(17,0),(18,0),(19,1),(20,0),(21,0),(22,0),(23,0),(24,0),(25,0),(26,1),(27,0),(28,0),(29,0),(30,0),(31,0),(32,0),(33,0),(34,0),(35,0),(36,0),(37,0),(38,0),(39,1),(40,0),(41,1),(42,0),(43,0)] fun wd hb=>?_;replace E:=hid (E.out.trans hb);clear hb;refine WE.p 55 (.pointer (some ⟨w.heap.size,0,none⟩)) ?_;simp only[pX];refine WE.q 56 (.int .i64 (j:Int)) rfl (fun w' hk=>by have ce:=(HB.out.up (E.out.trans hk)).k 0;go_simp) ?_;simp only[pX];refine WE.c 57 ((HR.out _).mono ?_);rintro e w6 ⟨rfl,hb6⟩;refine⟨_,rfl,hb6,?_⟩;replace E:=hid (E.out.trans hb6);clear hb6;simp only[pX];refine WE.p 58 (.bool true) ?_;simp only[pX];refine WE.p 59 (.pointer (some ⟨w.heap.size,0,none⟩)) ?_;simp only[pX];refine WE.q 60 (.int .i64 (j:Int)) rfl (fun w' hk=>by have ce:=(HB.out.up (E.out.trans hk)).k 0;go_simp) ?_;simp only[pX];refine WE.p 61 (.pointer (some ⟨0,j*5,none⟩)) ?_;simp only[pX];refine WE.q 62 (rv r0 r1 r2 r3 r4) rfl (fun w' hk=>by obtain⟨q0,q1,q2,q3,q4⟩:=RT.out _ (E.out.trans hk);go_simp) ?_;simp only[pX];refine WE.p 63 (.pointer (some ⟨w.heap.size,5,none⟩)) ?_;simp only[pX];refine WE.q 64 (.slice A n c) rfl (fun w' hk=>by have ce:=(HB.out.up (E.out.trans hk)).k 5;go_simp) ?_;simp only[pX];refine WE.c 65 ((HCC.out _).mono ?_);rintro e w6 ⟨rfl,hb6⟩;refine⟨_,rfl,hb6,?_⟩;replace E:=hid (E.out.trans hb6);clear hb6;simp only[pX];refine WE.p 66 (.bool true) ?_;simp only[pX];refine WE.p 67 (.bool true) ?_;simp only[pX];refine WE.p 68 (.pointer (some ⟨w.heap.size,0,none⟩)) ?_;simp only[pX];refine WE.q 69 (.int .i64 (j:Int)) rfl (fun w' hk=>by have ce:=(HB.out.up (E.out.trans hk)).k 0;go_simp) ?_;simp only[pX];refine WE.p 70 (.pointer (some ⟨0,j*5,none⟩)) ?_;simp only[pX];refine WE.q 71 (rv r0 r1 r2 r3 r4) rfl (fun w' hk=>by obtain⟨q0,q1,q2,q3,q4⟩:=RT.out _ (E.out.trans hk);go_simp) ?_;simp only[pX];refine WE.p 72 (.pointer (some ⟨w.heap.size,5,none⟩)) ?_;simp only[pX];refine WE.q 73 (.slice A n c) rfl (fun w' hk=>by have ce:=(HB.out.up (E.out.trans hk)).k 5;go_simp) ?_;simp only[pX];refine WE.c 74 ((HSS.out _ ((Ext.alloc w _).trans E.out)).mono ?_);rintro e w6 ⟨rfl,hb6⟩;refine⟨_,rfl,hb6,?_⟩;replace E:=hid (E.out.trans hb6);clear hb6;simp only[pX];refine WE.p 75 (.bool true) ?_;simp only[pX];refine WE.p 76 (.bool true) ?_;simp only[pX];refine WE.p 77 (.pointer (some ⟨w.heap.size,0,none⟩)) ?_;simp only[pX];refine WE.q 78 (.int .i64 (j:Int)) rfl (fun w' hk=>by have ce:=(HB.out.up (E.out.trans hk)).k 0;go_simp) ?_;simp only[pX];refine WE.p 79 (.pointer (some ⟨w.heap.size,5,none⟩)) ?_;simp only[pX];refine WE.q 80 (.slice A n c) rfl (fun w' hk=>by have ce:=(HB.out.up (E.out.trans hk)).k 5;go_simp) ?_;simp only[pX];refine WE.c 81 ((HLL.out _ ((Ext.alloc w _).trans E.out)).mono ?_);rintro e w6 ⟨rfl,hb6⟩;refine⟨_,rfl,hb6,?_⟩;replace E:=hid (E.out.trans hb6);clear hb6;simp only[pX];refine WE.p 82 (.bool true) ?_;simp only[pX];refine WE.p 83 (.bool true) ?_;simp only[pX];refine WE.p 84 (.bool true) ?_;simp only[pX];refine WE.q 85 (kv (j:Int) g N nn nc nm so A n c) rfl (fun w' hk=>by obtain⟨⟨b0,b1,b2,b3,b4,b5⟩,-,-⟩:=boxF6 (HB.out.up (E.out.trans hk));go_simp) ?_;simp only[pX];refine WE.p 86 (.pointer (some ⟨w.heap.size,0,none⟩)) ?_;simp only[pX];refine WE.q 87 (.int .i64 (j:Int)) rfl (fun w' hk=>by have ce:=(HB.out.up (E.out.trans hk)).k 0;go_simp) ?_;simp only[pX];refine WE.p 88 (.pointer (some ⟨w.heap.size,0,none⟩)) ?_;simp only[pX];refine WE.q 89 (.int .i64 (j:Int)) rfl (fun w' hk=>by have ce:=(HB.out.up (E.out.trans hk)).k 0;go_simp) ?_;simp only[pX];refine WE.p 90 (.pointer (some ⟨0,j*5,none⟩)) ?_;simp only[pX];refine WE.q 91 (rv r0 r1 r2 r3 r4) rfl (fun w' hk=>by obtain⟨q0,q1,q2,q3,q4⟩:=RT.out _ (E.out.trans hk);go_simp) ?_;simp only[pX];refine WE.p 92 (.pointer (some ⟨w.heap.size,5,none⟩)) ?_;simp only[pX];refine WE.q 93 (.slice A n c) rfl (fun w' hk=>by have ce:=(HB.out.up (E.out.trans hk)).k 5;go_simp) ?_;simp only[pX];refine WE.c 94 ((HOO.out _ ((Ext.alloc w _).trans E.out)).mono ?_);rintro e w6 ⟨rfl,hb6⟩;refine⟨_,rfl,hb6,?_⟩;replace E:=hid (E.out.trans hb6);clear hb6;simp only[pX];refine WE.p 95 (kv (j:Int) false none 0 0 [] own none 0 0) ?_;simp only[pX];refine WE.c 96 ((HH1.out _ ((Ext.alloc w _).trans E.out)).mono ?_);rintro e w6 ⟨rfl,hb6⟩;refine⟨_,rfl,hb6,?_⟩;replace E:=hid (E.out.trans hb6);clear hb6;simp only[pX];refine WE.p 97 (.bool z) ?_;simp only[pX];refine WE.p 2 (.bool z) ?_;simp only[pX];refine WE.done ?_;go_wp2_with fail
    go_ret;exact⟨rfl,(Ext.alloc w _).trans E.out⟩
theorem M.kis_eta (t:M.Tm): M.kis t=(M.kiss t.kids&&M.khead t.op t.g t.ls t.name t.sort t.kids):=by
 obtain⟨op,g,ls,nm,s,ks⟩:=t;rw[M.kis];rfl
set_option maxHeartbeats 8000000 in
theorem formed_n:∀(N:Nat) {ks:List M.Tm} {v:Value} {w:World},M.kcnts ks<N→M.kcnts ks≤400→M.kfews ks=true→Tms w ks v→Tab w→Calls Tryz.prog 93 #[v] w (GivesB w (M.kiss ks)):=by
 intro N
 induction N with
 | zero=>intro ks v w h;omega
 | succ N ih=>
  intro ks v w hN hN4 hfew hk htab;obtain⟨A,c,rfl⟩:=hk.shape;obtain⟨hl1,hl2,hl4⟩:=hk.le;obtain⟨n,hn⟩:∃n,ks.length=n:=⟨_,rfl⟩;obtain⟨z,hz⟩:∃z,M.kiss ks=z:=⟨_,rfl⟩;rw[hz];rw[hn] at hk hl2 ⊢;have HK:=hid hk;have HT:=hid htab;have IH:=@hid _ @ih;have HZ:=hid hz;have HLN:=hid hn;have HNN:=hid hN;have HN4:=hid hN4;have HF:=hid hfew;clear hk ih hn hl1 hz hN hN4 hfew htab;go_enter Tryz.func93,Tryz.ntmps93
  go_wp2_with fail
  go_loopw[7] (fun i wr=>∃(k:Nat),i=.int .i64 (k:Int)∧k≤n∧Hid (M.kiss (ks.take k)=true∧Ext w wr)) (fun i _=>n-(intOf i).toNat)
  case atStart=>exact⟨0,rfl,Nat.zero_le _,by simp[M.kiss],Ext.refl _⟩
  case round=>
   obtain⟨k,rfl,hk,hR⟩:=hrel;have E:=hid hR.out.2;have HS:=hid hR.out.1;clear hR;rcases Nat.lt_or_ge k n with hlt|hge
   ·have hlt':(k:Int)<(n:Int):=by omega
    obtain⟨ad,u,N',nn',nc',B,d,rfl,hu,⟨c0,c1,c2,c3,c4,c5⟩,hv⟩:=(HK.out.up E.out).get hlt;have HU:=hid hu;have HV:=hid hv;have hkd:=hv.num.2;have HKD:=hid hkd;have huc:=M.kcnt_kids u;have hua:=M.kcnts_at HU.out;have huf:=M.kfews_at HF.out HU.out;obtain⟨hnm,-,hkf⟩:=M.kfew_parts huf;have h4:=HN4.out;have h5:=HNN.out;have hlk:=M.kcnts_len u.kids;have HFE:=hid (show M.kiss u.kids=true→M.fitsM u.op u.g u.ls u.name u.sort u.kids=M.kis u from fun h=>by
     rw[M.kis_eta,h,Bool.true_and];exact M.fits_eq h (by omega))
    have HC1:=hid (show ∀w',Ext wr w'→Calls Tryz.prog 134 #[kv u.op u.g N' nn' nc' u.name u.sort B u.kids.length d] w' (GivesB w' (M.fitsM u.op u.g u.ls u.name u.sort u.kids)) from fun w' e=>
     fits_n (HV.out.up e) (HT.out.up (E.out.trans e)) (by omega) (by omega))
    have HC2:=hid (show ∀w',Ext wr w'→Calls Tryz.prog 93 #[.slice B u.kids.length d] w' (GivesB w' (M.kiss u.kids)) from fun w' e=>
     IH.out (by omega) (by omega) hkf (HKD.out.up e) (HT.out.up (E.out.trans e)))
    have HKE:=hid (M.kis_eta u);obtain⟨b1,hb1⟩:∃b,M.fitsM u.op u.g u.ls u.name u.sort u.kids=b:=⟨_,rfl⟩;obtain⟨b2,hb2⟩:∃b,M.kiss u.kids=b:=⟨_,rfl⟩;rw[hb1] at HC1 HFE;rw[hb2] at HC2 HFE HKE;have HB:=hid (show Box (wr.alloc (.cells #[.int .i64 u.op,.bool u.g,.slice N' nn' nc',str u.name,.int .i64 u.sort,.slice B u.kids.length d] 27)) wr.heap.size #[.int .i64 u.op,.bool u.g,.slice N' nn' nc',str u.name,.int .i64 u.sort,.slice B u.kids.length d] 27 from Box.new _ _ _);have HQ:=hid (show b1=false→z=false from fun h=>by
     subst h;rw[←HZ.out];refine M.not_kiss HU.out ?_;cases b2
     ·rw[HKE.out];rfl
     ·exact(HFE.out rfl).symm)
    have HQ2:=hid (show b2=false→z=false from fun h=>by
     subst h;rw[←HZ.out];refine M.not_kiss HU.out ?_;rw[HKE.out];rfl)
    have HQ3:=hid (show b1=true→b2=true→M.kis u=true from fun h h'=>by
     subst h h';exact(HFE.out rfl).symm)
    clear hu hv hkd huc hua huf hnm hkf h4 h5 hlk hb1 hb2 HFE HKE;cases b1
    ·obtain rfl:=HQ.out rfl;go_wp2_with fail
     refine(HC1.out _ (Ext.alloc _ _)).mono ?_;rintro e w' ⟨rfl,hb⟩;replace E:=hid ((E.out.alloc' _).trans hb);clear hb;go_wp2_with fail
     go_ret;exact⟨rfl,E.out⟩
    ·have hr3:=HQ3.out rfl;clear HQ HQ3;cases b2
     ·obtain rfl:=HQ2.out rfl;go_wp2_with fail
      refine(HC1.out _ (Ext.alloc _ _)).mono ?_;rintro e w' ⟨rfl,hb⟩;have E1:=hid ((Ext.alloc wr (.cells #[.int .i64 u.op,.bool u.g,.slice N' nn' nc',str u.name,.int .i64 u.sort,.slice B u.kids.length d] 27)).trans hb);obtain⟨⟨b0,b1,b2,b3,b4,b5⟩,-,-⟩:=boxF6 (HB.out.up hb);clear hb;go_wp2_with fail
      refine(HC2.out _ E1.out).mono ?_;rintro e w2 ⟨rfl,hb⟩;replace E:=hid ((E.out.trans E1.out).trans hb);clear hb;go_wp2_with fail
      go_ret;exact⟨rfl,E.out⟩
     ·have HKU:=hid (hr3 rfl);clear hr3;go_wp2_with fail
      refine(HC1.out _ (Ext.alloc _ _)).mono ?_;rintro e w' ⟨rfl,hb⟩;have E1:=hid ((Ext.alloc wr (.cells #[.int .i64 u.op,.bool u.g,.slice N' nn' nc',str u.name,.int .i64 u.sort,.slice B u.kids.length d] 27)).trans hb);obtain⟨⟨b0,b1,b2,b3,b4,b5⟩,-,-⟩:=boxF6 (HB.out.up hb);clear hb;go_wp2_with fail
      refine(HC2.out _ E1.out).mono ?_;rintro e w2 ⟨rfl,hb⟩;replace E:=hid ((E.out.trans E1.out).trans hb);clear hb;go_wp2_with fail
      go_roundw
      case rel=>exact⟨k+1,by simp,by omega,by rw[M.kiss_take HU.out,HS.out,HKU.out];rfl,E.out⟩
      case measure=>simp[intOf];omega
   ·obtain rfl:k=n:=by omega
    go_wp2;go_ret;obtain rfl:true=z:=by rw[←HZ.out,←HS.out,←HLN.out,List.take_length]
    exact⟨rfl,E.out⟩
set_option maxHeartbeats 4000000 in
theorem is_t {t:M.Tm}{v:Value}{w:World}(h:IsTm w t v)(hf:M.kfew t=true)(htab:Tab w): Calls Tryz.prog 61 #[v] w (GivesB w (M.kIs t)):=by
 obtain⟨N,nn,nc,A,n,c,rfl,-,-,-,-,-,-⟩:=h.shape;have HC:=hid (show ∀w',Ext w w'→Calls Tryz.prog 92 #[kv t.op t.g N nn nc t.name t.sort A n c] w' (GivesI w' ((min (M.kcnt t) 401:Nat):Int)) from fun w' e=>count_t t (h.up e));obtain⟨op,hop⟩:∃x,t.op=x:=⟨_,rfl⟩;obtain⟨g,hg⟩:∃x,t.g=x:=⟨_,rfl⟩;obtain⟨nm,hnm⟩:∃x,t.name=x:=⟨_,rfl⟩;obtain⟨so,hso⟩:∃x,t.sort=x:=⟨_,rfl⟩;rw[hop,hg,hnm,hso] at h HC ⊢;obtain⟨m,hm⟩:∃m,min (M.kcnt t) 401=m:=⟨_,rfl⟩;rw[hm] at HC;have HF:=hid (show M.kcnt t≤400→∀w' gb T,Ext w w'→Box w' gb #[.int .i64 op,.bool g,.slice N nn nc,str nm,.int .i64 so,.slice A n c] T→Calls Tryz.prog 93 #[.slice (some ⟨gb,0,none⟩) 1 1] w' (GivesB w' (M.kis t)) from fun hc w' gb T e hb=>by
  have:=formed_n (M.kcnts [t]+1) (Nat.lt_succ_self _) (by simp[M.kcnts];exact hc) (by simp[M.kfews,hf]) (tms_one (h.up e) hb) (htab.up e)
  rwa [show M.kiss [t]=M.kis t by simp[M.kiss]] at this)
 have HB:=hid (Box.new w #[.int .i64 op,.bool g,.slice N nn nc,str nm,.int .i64 so,.slice A n c] 27)
 by_cases hc:M.kcnt t≤400
 ·have hr:M.kIs t=M.kis t:=by unfold M.kIs;rw[decide_eq_true hc,Bool.true_and]
  rw[hr];obtain⟨q,hq⟩:∃q,M.kis t=q:=⟨_,rfl⟩;have HFF:=hid (HF.out hc);rw[hq] at HFF ⊢;have hm4:(m:Int)≤400:=by omega
  clear h hf htab hop hg hnm hso hm hc hr hq HF;go_enter Tryz.func61,Tryz.ntmps61
  go_wp2_with fail
  refine(HC.out _ (Ext.alloc w _)).mono ?_;rintro e w1 ⟨rfl,hb⟩;have E:=hid ((Ext.alloc w (.cells #[.int .i64 op,.bool g,.slice N nn nc,str nm,.int .i64 so,.slice A n c] 27)).trans hb);obtain⟨⟨b0,b1,b2,b3,b4,b5⟩,-,-⟩:=boxF6 (HB.out.up hb);clear hb;go_wp2_with fail
  refine(HFF.out _ _ _ (E.out.alloc' _) (Box.new _ _ _)).mono ?_;rintro e w2 ⟨rfl,hb⟩;replace E:=hid ((E.out.alloc' _).trans hb);clear hb;go_wp2;go_ret;exact⟨rfl,E.out⟩
 ·have hr:M.kIs t=false:=by unfold M.kIs;rw[decide_eq_false hc,Bool.false_and]
  rw[hr];have hm4:decide ((m:Int)≤400)=false:=by simp;omega
  clear h hf htab hop hg hnm hso hm hc hr HF;go_enter Tryz.func61,Tryz.ntmps61
  go_wp2_with fail
  refine(HC.out _ (Ext.alloc w _)).mono ?_;rintro e w1 ⟨rfl,hb⟩;have E:=hid ((Ext.alloc w (.cells #[.int .i64 op,.bool g,.slice N nn nc,str nm,.int .i64 so,.slice A n c] 27)).trans hb);clear hb;go_wp2_with fail
  go_ret;exact⟨rfl,E.out⟩
set_option maxHeartbeats 4000000 in
theorem all_t {l:List M.Tm}{v:Value}{w:World}(h:Tms w l v)(hf:M.kfews l=true)(htab:Tab w): Calls Tryz.prog 213 #[v] w (GivesB w (M.kIss l)):=by
 obtain⟨A,c,rfl⟩:=h.shape;obtain⟨hl1,hl2,hl3⟩:=h.le;obtain⟨n,hn'⟩:∃n,l.length=n:=⟨_,rfl⟩;rw[hn'] at h hl2 ⊢;have HK:=hid h;have HN:=hid hn';have HF:=hid hf;have HT:=hid htab;clear h hl1 hn' hf htab;go_enter Tryz.func213,Tryz.ntmps213
 go_wp2_with fail
 go_loopw[7] (fun i wr=>∃(k:Nat),i=.int .i64 (k:Int)∧k≤n∧Hid (M.kIss (l.take k)=true∧Ext w wr)) (fun i _=>n-(intOf i).toNat)
 case atStart=>exact⟨0,rfl,Nat.zero_le _,by simp[M.kIss],Ext.refl _⟩
 case round=>
  obtain⟨k,rfl,hk,hR⟩:=hrel;have E:=hid hR.out.2;have HS:=hid hR.out.1;clear hR;rcases Nat.lt_or_ge k n with hlt|hge
  ·have hlt':(k:Int)<(n:Int):=by omega
   obtain⟨ad,u,N',nn',nc',B,d,rfl,hu,⟨c0,c1,c2,c3,c4,c5⟩,hv⟩:=(HK.out.up E.out).get hlt;have HU:=hid hu;have HV:=hid hv;have HC:=hid (show ∀w',Ext wr w'→Calls Tryz.prog 61 #[kv u.op u.g N' nn' nc' u.name u.sort B u.kids.length d] w' (GivesB w' (M.kIs u)) from fun w' e=>is_t (HV.out.up e) (M.kfews_at HF.out HU.out) (HT.out.up (E.out.trans e)));obtain⟨q,hq'⟩:∃q,M.kIs u=q:=⟨_,rfl⟩;have HQ:=hid hq';rw[hq'] at HC;clear hu hv hq';cases q
   ·have HR:=hid (M.not_kIss HU.out HQ.out);go_wp2_with fail
    refine(HC.out _ (Ext.alloc _ _)).mono ?_;rintro e w' ⟨rfl,hb⟩;replace E:=hid ((E.out.alloc' _).trans hb);clear hb;go_wp2_with fail
    go_ret;rw[HR.out];exact⟨rfl,E.out⟩
   ·go_wp2_with fail
    refine(HC.out _ (Ext.alloc _ _)).mono ?_;rintro e w' ⟨rfl,hb⟩;replace E:=hid ((E.out.alloc' _).trans hb);clear hb;go_wp2_with fail
    go_roundw
    case rel=>exact⟨k+1,by simp,by omega,by rw[M.kIss_take HU.out,HS.out,HQ.out];rfl,E.out⟩
    case measure=>simp[intOf];omega
  ·obtain rfl:k=n:=by omega
   have HR:=hid (show M.kIss l=true by
    have h1:=HS.out
    rwa [←HN.out,List.take_length] at h1)
   go_wp2;go_ret;rw[HR.out];exact⟨rfl,E.out⟩
end Go.Proofs.YtoenjbkmiphhoaaGreatDoor.Q
