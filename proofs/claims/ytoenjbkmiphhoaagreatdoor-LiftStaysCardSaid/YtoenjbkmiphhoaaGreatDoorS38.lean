/-
  What each law's proof of layer 10 shares: an argument that is a term, a list of terms, a name's Sig, opened.
-/
import Derived.Test.YtoenjbkmiphhoaaGreatDoorS17
import Derived.Test.YtoenjbkmiphhoaaGreatDoorS08
import Derived.ProofKit
import Derived.OpenShut
import Derived.Carry
import Derived.ChangeMaps5
import Derived.Test.YtoenjbkmiphhoaaGreatDoorS37
import Derived.Test.YtoenjbkmiphhoaaGreatDoorCards
import Derived.Test.YtoenjbkmiphhoaaGreatDoorTie
import Derived.LaidMore
import Derived.Stop.Joined
import Derived.Stop.LaidErr
import Derived.SevenTiedAt
import Derived.Lib.LaidTab
import Derived.Test.YtoenjbkmiphhoaaGreatDoorS34
namespace Go.Proofs.YtoenjbkmiphhoaaGreatDoor.Q
set_option linter.unusedSimpArgs false
set_option linter.unusedVariables false
open Go.ChangeShapes Go.WideShapes Go.ChangeAt Go.RowKit
theorem cells_Term:Tryz.prog.cellsOf 27=6:=by kernel_rfl
theorem cells_int1:Tryz.prog.cellsOf 3=1:=by kernel_rfl
section
variable {H:Type} {enc:TypeId×Value→H} {W W':World}
def TermCells (W:World)(cs:List Value): Prop:=∃(op:Int) (g:Bool) (N:Option Addr) (nn nc:Nat) (ls:List Nat) (nm:List UInt8) (so:Int) (ks:List M.Tm) (v:Value),cs=[.int .i64 op,.bool g,.slice N nn nc,str nm,.int .i64 so,v]∧LNum W (.slice N nn nc) ls∧Tms W ks v
theorem terms_open {f:Nat}(ih:∀f' cs x,f'<f→DataW.trod enc Tryz.prog W 0 (fun _=>true) true f' 27 cs=some x→TermCells W cs){cs:List Value}{x:DataW H×List MemPlace}
 (h:DataW.trod enc Tryz.prog W 0 (fun _=>true) true f 25 cs=some x):∃v ks,cs=[v]∧Tms W ks v:=by
 rcases DataW.trod_slice Tryz.underlying25 h with⟨rfl,_⟩|⟨a,len,cap,elems,rest,n,rfl,rfl,_,_,hl,hmx,hel,hx,_⟩
 ·exact⟨_,[],rfl,Tms.nil W⟩
 ·rw[cells_Term] at hx
  have key:∀i,i<len→∃t:M.Tm,a.block<W.heap.size∧TmAt W t (a.add (i*6)):=by
   intro i hi
   have he:=hx i hi
   rw[List.getElem?_eq_getElem (by omega)] at he
   obtain⟨cs',h1,h2⟩:=Option.bind_eq_some_iff.1 he
   obtain⟨_,hlen,hc⟩:=World.cells?_some h1
   obtain⟨op,g,N,nn,nc,ls,nm,so,ks,v,rfl,hn,hk⟩:=ih n cs' _ (by omega) h2
   have k0:=hc 0 (by omega)
   have k1:=hc 1 (by omega)
   have k2:=hc 2 (by omega)
   have k3:=hc 3 (by omega)
   have k4:=hc 4 (by omega)
   have k5:=hc 5 (by omega)
   have hbl:=World.block_lt_of_cell? W _ k1
   rw[addr_block,addr_block] at hbl
   rw[Addr.add_zero'] at k0
   exact⟨.mk op g ls nm so ks,hbl,tmAt_mk.2 ⟨N,nn,nc,v,⟨⟨k0,k1,k2⟩,k3,k4,k5⟩,hn,hk⟩⟩
  haveI:Inhabited M.Tm:=⟨M.K0⟩
  obtain⟨g,hg⟩:=Go.Deep.choose_lt (α:=M.Tm) (p:=fun i t=>a.block<W.heap.size∧TmAt W t (a.add (i*6))) key
  refine⟨_,(List.range len).map g,rfl,Tms.mk_ ⟨some a,_,_,rfl,by simp,hl,hmx,fun hne=>?_⟩⟩
  have hpos:0<len:=by
   rcases Nat.eq_zero_or_pos len with h0|h0
   ·subst h0;simp at hne
   ·exact h0
  refine⟨a,rfl,(hg 0 hpos).1,fun k t hk=>?_⟩
  rw[List.getElem?_map] at hk
  obtain⟨k',hk1,hk2⟩:=Option.map_eq_some_iff.1 hk
  obtain⟨hk3,hk4⟩:=List.getElem?_eq_some_iff.1 hk1
  simp at hk3 hk4
  subst hk4 hk2
  exact(hg k hk3).2
set_option maxRecDepth 4000 in
theorem term_cells:∀(f:Nat) (cs:List Value) (x:DataW H×List MemPlace),DataW.trod enc Tryz.prog W 0 (fun _=>true) true f 27 cs=some x→TermCells W cs:=by
 intro f
 induction f using Nat.strongRecOn with
 | _ f ih=>
  intro cs x h
  obtain⟨xs,n,rfl,_,hlen,hxl,hf⟩:=DataW.trod_struct Tryz.underlying27 h
  rw[cells_Term] at hlen
  match xs,hxl with
  | [y0,y1,y2,y3,y4],_=>
  match cs,hlen with
  | [v0,v1,v2,v3,v4,v5],_=>
   have h0:DataW.trod enc Tryz.prog W 0 (fun _=>true) true n 3 (([v0,v1,v2,v3,v4,v5].drop 0).take (Tryz.prog.cellsOf 3))=some y0:=hf 0 _ rfl
   have h1:DataW.trod enc Tryz.prog W 0 (fun _=>true) true n 24 (([v0,v1,v2,v3,v4,v5].drop 1).take (Tryz.prog.cellsOf 24))=some y1:=hf 1 _ rfl
   have h2:DataW.trod enc Tryz.prog W 0 (fun _=>true) true n 9 (([v0,v1,v2,v3,v4,v5].drop 3).take (Tryz.prog.cellsOf 9))=some y2:=hf 2 _ rfl
   have h3:DataW.trod enc Tryz.prog W 0 (fun _=>true) true n 3 (([v0,v1,v2,v3,v4,v5].drop 4).take (Tryz.prog.cellsOf 3))=some y3:=hf 3 _ rfl
   have h4:DataW.trod enc Tryz.prog W 0 (fun _=>true) true n 25 (([v0,v1,v2,v3,v4,v5].drop 5).take (Tryz.prog.cellsOf 25))=some y4:=hf 4 _ rfl
   have c2:Tryz.prog.cellsOf 25=1:=by kernel_rfl
   have d1:Tryz.prog.cellsOf 9=1:=by kernel_rfl
   simp only[List.drop_zero,cells_int1,List.take_succ_cons,List.take_zero] at h0
   simp only[List.drop_succ_cons,List.drop_zero,cells_Int,List.take_succ_cons,List.take_zero] at h1
   simp only[List.drop_succ_cons,List.drop_zero,d1,List.take_succ_cons,List.take_zero] at h2
   simp only[List.drop_succ_cons,List.drop_zero,cells_int1,List.take_succ_cons,List.take_zero] at h3
   simp only[List.drop_succ_cons,List.drop_zero,c2,List.take_succ_cons,List.take_zero] at h4
   obtain⟨op,hop,_⟩:=DataW.trod_int Tryz.underlying3 h0
   injection hop with hop
   subst hop
   obtain⟨z0,z1,n',_,_,h10,h11⟩:=trod_struct2 Tryz.underlying24 h1
   have d2:Tryz.prog.cellsOf 4=1:=by kernel_rfl
   have d3:Tryz.prog.cellsOf 22=1:=by kernel_rfl
   simp only[List.drop_zero,d2,List.take_succ_cons,List.take_zero] at h10
   simp only[List.drop_succ_cons,List.drop_zero,d3,List.take_succ_cons,List.take_zero] at h11
   obtain⟨g,hg,_⟩:=DataW.trod_bool Tryz.underlying4 h10
   injection hg with hg
   subst hg
   obtain⟨N,nn,nc,ls,rfl,hn⟩:=open_row h11
   obtain⟨s,hs',_⟩:=DataW.trod_string Tryz.underlying9 h2
   injection hs' with hs'
   subst hs'
   obtain⟨so,hso,_⟩:=DataW.trod_int Tryz.underlying3 h3
   injection hso with hso
   subst hso
   obtain⟨v,ks,hv,hks⟩:=terms_open (fun f' cs x hlt hh=>ih f' (by omega) cs x hh) h4
   injection hv with hv
   subst hv
   exact⟨op,g,N,nn,nc,ls,s.data.toList,so,ks,_,rfl,hn,hks⟩
set_option maxRecDepth 100000 in
theorem open_Term {r:Reach}{b0:Nat}{v:Value}{d:DataW H}{ps:List MemPlace}(hval:Value.okWide Tryz.prog W r b0 27 v)(h:DataW.Trod enc Tryz.prog W 0 (fun _=>true) true 27 v d ps):
 ∃t,IsTm W t v:=by
 obtain⟨cs,rfl,hsz⟩:=okWide_struct Tryz.underlying27 hval
 obtain⟨fuel,hf⟩:=h
 have hf':DataW.trod enc Tryz.prog W 0 (fun _=>true) true fuel 27 cs.toList=some (d,ps):=hf
 obtain⟨op,g,N,nn,nc,ls,nm,so,ks,v,hcs,hn,hk⟩:=term_cells _ _ _ hf'
 obtain⟨A,c,rfl⟩:=hk.shape
 refine⟨.mk op g ls nm so ks,N,nn,nc,A,c,?_,hn,hk⟩
 rw[show cs=#[.int .i64 op,.bool g,.slice N nn nc,str nm,.int .i64 so,.slice A ks.length c] from Array.toList_inj.1 hcs]
 rfl
end
set_option linter.unusedSimpArgs false
set_option linter.unusedVariables false
open Go.ChangeShapes Go.WideShapes Go.ChangeAt Go.RowKit
def laid4 {H:Type}: List (String×DataW H):=[("math/bits.deBruijn32tab",Rows.laid_math_bits_deBruijn32tab),("math/bits.deBruijn64tab",Rows.laid_math_bits_deBruijn64tab),("internal/strconv.uint64pow10",Rows.laid_internal_strconv_uint64pow10),("mullion/term.rules",Rows.laid_mullion_term_rules)]
theorem gPow:Tryz.prog.globalNamed "internal/strconv.uint64pow10"=some 2:=by kernel_rfl
theorem tPow:(Tryz.prog.globals[2]?).map (·.type)=some 220:=by kernel_rfl
theorem gTab:Tryz.prog.globalNamed "mullion/term.rules"=some 0:=by kernel_rfl
theorem tTab:(Tryz.prog.globals[0]?).map (·.type)=some 191:=by kernel_rfl
theorem door_met (os:Os)(args:Array Value): laidMetH Tryz.prog laid4 ((World.doorLaid Tryz.prog 400 os).forCall (fun _ _=>0) ⟨#[],args,[]⟩).memory:=
 laidMetH_of_parts3 (fuel:=8) (laidMet_of_run' 8 (by kernel_rfl) (by kernel_rfl)) (by kernel_rfl) (by kernel_rfl)
theorem cells_rule:Tryz.prog.cellsOf 190=5:=by kernel_rfl
theorem cells_i:Tryz.prog.cellsOf 3=1:=by kernel_rfl
def ruleRows:List (DataW Unit):=(List.range 23).map fun i=>.agg ((List.range 5).map fun j=>.lit (.int .i64 (M.rulesC.getD (i*5+j) 0)))
theorem laid_rows:(Rows.laid_mullion_term_rules:DataW Unit)=.agg ruleRows:=by kernel_rfl
section
variable {enc:TypeId×Value→Unit} {W:World}
theorem int_of {f:Nat}{v:Value}{y:DataW Unit×List MemPlace}(h:DataW.trod enc Tryz.prog W 0 (fun _=>true) false f 3 [v]=some y): ∃z,v=.int .i64 z∧y.1=.lit (.int .i64 z):=by
 obtain⟨z,hz,hy,_⟩:=DataW.trod_int Tryz.underlying3 h
 injection hz with hz
 exact⟨z,hz,by rw[hy]⟩
set_option maxRecDepth 4000 in
theorem rule_cells {f:Nat}{cs:List Value}{x:DataW Unit×List MemPlace}(h:DataW.trod enc Tryz.prog W 0 (fun _=>true) false f 190 cs=some x):
 ∃a b c d e,cs=[.int .i64 a,.int .i64 b,.int .i64 c,.int .i64 d,.int .i64 e]∧x.1=.agg [.lit (.int .i64 a),.lit (.int .i64 b),.lit (.int .i64 c),.lit (.int .i64 d),.lit (.int .i64 e)]:=by
 obtain⟨xs,n,rfl,hx,hlen,hxl,hf⟩:=DataW.trod_struct Tryz.underlying190 h
 rw[cells_rule] at hlen
 match xs,hxl with
 | [y0,y1,y2,y3,y4],_=>
 match cs,hlen with
 | [v0,v1,v2,v3,v4],_=>
  have h0:DataW.trod enc Tryz.prog W 0 (fun _=>true) false n 3 (([v0,v1,v2,v3,v4].drop 0).take (Tryz.prog.cellsOf 3))=some y0:=hf 0 _ rfl
  have h1:DataW.trod enc Tryz.prog W 0 (fun _=>true) false n 3 (([v0,v1,v2,v3,v4].drop 1).take (Tryz.prog.cellsOf 3))=some y1:=hf 1 _ rfl
  have h2:DataW.trod enc Tryz.prog W 0 (fun _=>true) false n 3 (([v0,v1,v2,v3,v4].drop 2).take (Tryz.prog.cellsOf 3))=some y2:=hf 2 _ rfl
  have h3:DataW.trod enc Tryz.prog W 0 (fun _=>true) false n 3 (([v0,v1,v2,v3,v4].drop 3).take (Tryz.prog.cellsOf 3))=some y3:=hf 3 _ rfl
  have h4:DataW.trod enc Tryz.prog W 0 (fun _=>true) false n 3 (([v0,v1,v2,v3,v4].drop 4).take (Tryz.prog.cellsOf 3))=some y4:=hf 4 _ rfl
  rw[cells_i] at h0 h1 h2 h3 h4
  obtain⟨a,rfl,ha⟩:=int_of (v:=v0) h0
  obtain⟨b,rfl,hb⟩:=int_of (v:=v1) h1
  obtain⟨c,rfl,hc⟩:=int_of (v:=v2) h2
  obtain⟨d,rfl,hd⟩:=int_of (v:=v3) h3
  obtain⟨e,rfl,he⟩:=int_of (v:=v4) h4
  exact⟨a,b,c,d,e,rfl,by rw[hx];simp only[List.map_cons,List.map_nil,ha,hb,hc,hd,he]⟩
set_option maxRecDepth 4000 in
theorem rules_cells {f:Nat}{cs:List Value}{p:List MemPlace}(h:DataW.trod enc Tryz.prog W 0 (fun _=>true) false f 191 cs=some (Rows.laid_mullion_term_rules,p)):
 ∀(k:Nat) (x:Int),M.rulesC[k]?=some x→cs[k]?=some (Value.int .i64 x):=by
 obtain⟨xs,n,rfl,hx,hlen,hxl,hf⟩:=DataW.trod_array Tryz.underlying191 h
 rw[laid_rows] at hx
 have hx1:ruleRows=xs.map (·.1):=by
  have:=congrArg Prod.fst hx
  injection this
 intro k x hk
 have hk115:k<115:=show k<M.rulesC.length from(List.getElem?_eq_some_iff.1 hk).1
 obtain⟨i,j,rfl,hj⟩:∃i j,k=i*5+j∧j<5:=⟨k/5,k%5,by omega,Nat.mod_lt _ (by omega)⟩
 have hi:i<23:=by omega
 have h1:=hf i hi
 obtain⟨y,hy⟩:∃y,xs[i]?=some y:=⟨xs[i]'(by omega),List.getElem?_eq_getElem (by omega)⟩
 rw[hy,cells_rule] at h1
 obtain⟨a,b,c,d,e,hcs,hyd⟩:=rule_cells h1
 have h2:ruleRows[i]?=some y.1:=by rw[hx1,List.getElem?_map,hy];rfl
 have h3:ruleRows[i]?=some (.agg ((List.range 5).map fun j=>.lit (.int .i64 (M.rulesC.getD (i*5+j) 0)))):=by
  unfold ruleRows
  rw[List.getElem?_map,List.getElem?_range hi]
  rfl
 rw[h2,hyd] at h3
 have h4:=Option.some.inj h3
 injection h4 with h5
 have h6:cs[i*5+j]?=([Value.int .i64 a,.int .i64 b,.int .i64 c,.int .i64 d,.int .i64 e]:List Value)[j]?:=by
  rw[←hcs,List.getElem?_take,if_pos hj,List.getElem?_drop]
 have h7:M.rulesC.getD (i*5+j) 0=x:=by rw[List.getD_eq_getElem?_getD,hk];rfl
 rw[h6]
 simp only[show List.range 5=[0,1,2,3,4] from rfl,List.map_cons,List.map_nil,List.cons.injEq,DataW.lit.injEq,Lit.int.injEq,true_and,and_true] at h5
 obtain⟨e0,e1,e2,e3,e4⟩:=h5
 match j,hj with
 | 0,_=>rw[←h7,←e0];rfl
 | 1,_=>rw[←h7,←e1];rfl
 | 2,_=>rw[←h7,←e2];rfl
 | 3,_=>rw[←h7,←e3];rfl
 | 4,_=>rw[←h7,←e4];rfl
end
set_option maxRecDepth 100000 in
theorem tab_of_laid {W:World}(h:laidMetH Tryz.prog laid4 W): TabL W:=by
 rw[MakeChecks.laidMetH_plain _ _ _ (by kernel_rfl)] at h
 have h2:=h.tail.tail
 have h3:=h2.tail
 have e:(Rows.laid_internal_strconv_uint64pow10:DataW Unit)=Lib.tabData .u64 Lib.pow10Tab:=by kernel_rfl
 rw[e] at h2
 refine⟨?_,Lib.tabIs_of_head gPow tPow Tryz.underlying220 Tryz.underlying92 (by kernel_rfl) (by kernel_rfl) h2⟩
 obtain⟨ps,⟨g',t',cs,fuel,p,q,hg',ht',hvar,hd,_,_⟩,_⟩:=h3
 obtain rfl:=Option.some.inj (gTab.symm.trans hg')
 obtain rfl:=Option.some.inj (tTab.symm.trans ht')
 intro k x hk
 rw[World.var?_cell gTab hvar k,←Array.getElem?_toList]
 exact rules_cells hd k x hk
set_option linter.unusedSimpArgs false
set_option linter.unusedVariables false
open Go.RowKit
namespace M
theorem lifted_stay {t:Tm}{next:Int}(hk:kIs t=true)(h:has1 t=false): (lifted t next).1=t∧(lifted t next).2.held=[]∧(lifted t next).2.next=next:=by
 have hp:=pure_stay t (ps0 next []) rfl (kIs_parts hk).1 h
 have hd:=lifted_do (t:=t) (next:=next) (m:=[])
 rcases do_ways hk next [] with⟨hb,-⟩|⟨-,e⟩
 ·rw[hp] at hb;cases hb
 ·rw[hp] at e
  rw[e] at hd
  simp only[Prod.mk.injEq] at hd
  exact⟨hd.1.symm,hd.2.1.symm,hd.2.2.1.symm⟩
theorem lifted_two {t:Tm}{next:Int}(hk:kIs t=true)(h:has1 t=true): ((lifted t next).1=t∧(lifted t next).2.next=next) ∨
 (has1 (lifted t next).1=false∧kIs (lifted t next).1=true∧(lifted t next).1.sort=t.sort∧((lifted t next).2.held.length:Int)=2*((lifted t next).2.next-next)):=by
 have hd:=lifted_do (t:=t) (next:=next) (m:=[])
 obtain⟨hc,hks⟩:=kIs_parts hk
 rcases do_ways hk next [] with⟨-,e⟩|⟨hb,e⟩
 ·rw[e] at hd
  simp only[Prod.mk.injEq] at hd
  exact .inl ⟨hd.1.symm,hd.2.2.1.symm⟩
 ·rw[e] at hd
  simp only[Prod.mk.injEq] at hd
  obtain⟨d1,d2,d3,-⟩:=hd
  obtain⟨b1,b2,-,-⟩:=pure_ok (act1_ok []) t (ps0 next []) rfl hks hc hb
  obtain⟨c1,c2,c3⟩:=pure_pure t (ps0 next []) rfl hb
  rw[←d1,←d2,←d3]
  refine .inr ⟨c1,?_,b2,?_⟩
  ·unfold kIs;rw[b1,decide_eq_true (pure_cnt rfl hks hc hb)];rfl
  ·have h1:((pureT act1 t (ps0 next [])).2.defs.length:Int)=0+2*((pureT act1 t (ps0 next [])).2.next-next):=c3
   omega
end M
end Go.Proofs.YtoenjbkmiphhoaaGreatDoor.Q
