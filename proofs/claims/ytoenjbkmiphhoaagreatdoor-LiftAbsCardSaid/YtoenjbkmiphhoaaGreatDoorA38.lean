/-
  Layer 13: what the listed tables give a law's walk; a world that meets the condition; the row's last step.
-/
import Derived.Test.YtoenjbkmiphhoaaGreatDoorA37
import Derived.ProofKit
import Derived.OpenShut
import Derived.Carry
import Derived.ChangeMaps5
import Derived.Test.YtoenjbkmiphhoaaGreatDoorCards
import Derived.Test.YtoenjbkmiphhoaaGreatDoorTie
import Derived.LaidMore
import Derived.Stop.Joined
import Derived.Stop.LaidErr
import Derived.SevenTiedAt
import Derived.Lib.LaidTab
namespace Go.Proofs.YtoenjbkmiphhoaaGreatDoor.Q
set_option linter.unusedSimpArgs false
set_option linter.unusedVariables false
open Go.ChangeShapes Go.WideShapes Go.ChangeAt Go.RowKit
def laid4 {H:Type}: List (String×DataW H):=[("math/bits.deBruijn32tab",Rows.laid_math_bits_deBruijn32tab),("math/bits.deBruijn64tab",Rows.laid_math_bits_deBruijn64tab),("internal/strconv.uint64pow10",Rows.laid_internal_strconv_uint64pow10),("mullion/term.rules",Rows.laid_mullion_term_rules)]
theorem gPow:Tryz.prog.globalNamed "internal/strconv.uint64pow10"=some 2:=by kernel_rfl
theorem tPow:(Tryz.prog.globals[2]?).map (·.type)=some 220:=by kernel_rfl
theorem gTab:Tryz.prog.globalNamed "mullion/term.rules"=some 0:=by kernel_rfl
theorem tTab:(Tryz.prog.globals[0]?).map (·.type)=some 191:=by kernel_rfl
theorem door_met (os:Os)(args:Array Value): laidMetH Tryz.prog laid4 ((World.doorLaid Tryz.prog 400 os).forCall (fun _ _=>0) ⟨#[],args,[]⟩).memory:=
 laidMetH_of_parts3 (fuel:=8) (laidMet_of_run' 8 (by kernel_rfl) (by kernel_rfl)) (by kernel_rfl) (by kernel_rfl)
theorem cells_rule:Tryz.prog.cellsOf 190=5:=by kernel_rfl
theorem cells_i:Tryz.prog.cellsOf 3=1:=by kernel_rfl
def ruleRows:List (DataW Unit):=(List.range 23).map fun i=>.agg ((List.range 5).map fun j=>.lit (.int .i64 (M.rulesC.getD (i*5+j) 0)))
theorem laid_rows:(Rows.laid_mullion_term_rules:DataW Unit)=.agg ruleRows:=by kernel_rfl
section
variable {enc:TypeId×Value→Unit} {W:World}
theorem int_of {f:Nat}{v:Value}{y:DataW Unit×List MemPlace}(h:DataW.trod enc Tryz.prog W 0 (fun _=>true) false f 3 [v]=some y): ∃z,v=.int .i64 z∧y.1=.lit (.int .i64 z):=by
 obtain⟨z,hz,hy,_⟩:=DataW.trod_int Tryz.underlying3 h;injection hz with hz;exact⟨z,hz,by rw[hy]⟩
set_option maxRecDepth 4000 in
theorem rule_cells {f:Nat}{cs:List Value}{x:DataW Unit×List MemPlace}(h:DataW.trod enc Tryz.prog W 0 (fun _=>true) false f 190 cs=some x):
 ∃a b c d e,cs=[.int .i64 a,.int .i64 b,.int .i64 c,.int .i64 d,.int .i64 e]∧x.1=.agg [.lit (.int .i64 a),.lit (.int .i64 b),.lit (.int .i64 c),.lit (.int .i64 d),.lit (.int .i64 e)]:=by
 obtain⟨xs,n,rfl,hx,hlen,hxl,hf⟩:=DataW.trod_struct Tryz.underlying190 h;rw[cells_rule] at hlen
 match xs,hxl with
 | [y0,y1,y2,y3,y4],_=>
 match cs,hlen with
 | [v0,v1,v2,v3,v4],_=>
  have h0:DataW.trod enc Tryz.prog W 0 (fun _=>true) false n 3 (([v0,v1,v2,v3,v4].drop 0).take (Tryz.prog.cellsOf 3))=some y0:=hf 0 _ rfl;have h1:DataW.trod enc Tryz.prog W 0 (fun _=>true) false n 3 (([v0,v1,v2,v3,v4].drop 1).take (Tryz.prog.cellsOf 3))=some y1:=hf 1 _ rfl;have h2:DataW.trod enc Tryz.prog W 0 (fun _=>true) false n 3 (([v0,v1,v2,v3,v4].drop 2).take (Tryz.prog.cellsOf 3))=some y2:=hf 2 _ rfl;have h3:DataW.trod enc Tryz.prog W 0 (fun _=>true) false n 3 (([v0,v1,v2,v3,v4].drop 3).take (Tryz.prog.cellsOf 3))=some y3:=hf 3 _ rfl;have h4:DataW.trod enc Tryz.prog W 0 (fun _=>true) false n 3 (([v0,v1,v2,v3,v4].drop 4).take (Tryz.prog.cellsOf 3))=some y4:=hf 4 _ rfl;rw[cells_i] at h0 h1 h2 h3 h4;obtain⟨a,rfl,ha⟩:=int_of (v:=v0) h0;obtain⟨b,rfl,hb⟩:=int_of (v:=v1) h1;obtain⟨c,rfl,hc⟩:=int_of (v:=v2) h2;obtain⟨d,rfl,hd⟩:=int_of (v:=v3) h3;obtain⟨e,rfl,he⟩:=int_of (v:=v4) h4;exact⟨a,b,c,d,e,rfl,by rw[hx];simp only[List.map_cons,List.map_nil,ha,hb,hc,hd,he]⟩
set_option maxRecDepth 4000 in
theorem rules_cells {f:Nat}{cs:List Value}{p:List MemPlace}(h:DataW.trod enc Tryz.prog W 0 (fun _=>true) false f 191 cs=some (Rows.laid_mullion_term_rules,p)):
 ∀(k:Nat) (x:Int),M.rulesC[k]?=some x→cs[k]?=some (Value.int .i64 x):=by
 obtain⟨xs,n,rfl,hx,hlen,hxl,hf⟩:=DataW.trod_array Tryz.underlying191 h;rw[laid_rows] at hx;have hx1:ruleRows=xs.map (·.1):=by
  have:=congrArg Prod.fst hx;injection this
 intro k x hk;have hk115:k<115:=show k<M.rulesC.length from(List.getElem?_eq_some_iff.1 hk).1;obtain⟨i,j,rfl,hj⟩:∃i j,k=i*5+j∧j<5:=⟨k/5,k%5,by omega,Nat.mod_lt _ (by omega)⟩;have hi:i<23:=by omega
 have h1:=hf i hi;obtain⟨y,hy⟩:∃y,xs[i]?=some y:=⟨xs[i]'(by omega),List.getElem?_eq_getElem (by omega)⟩;rw[hy,cells_rule] at h1;obtain⟨a,b,c,d,e,hcs,hyd⟩:=rule_cells h1;have h2:ruleRows[i]?=some y.1:=by rw[hx1,List.getElem?_map,hy];rfl
 have h3:ruleRows[i]?=some (.agg ((List.range 5).map fun j=>.lit (.int .i64 (M.rulesC.getD (i*5+j) 0)))):=by
  unfold ruleRows;rw[List.getElem?_map,List.getElem?_range hi];rfl
 rw[h2,hyd] at h3;have h4:=Option.some.inj h3;injection h4 with h5;have h6:cs[i*5+j]?=([Value.int .i64 a,.int .i64 b,.int .i64 c,.int .i64 d,.int .i64 e]:List Value)[j]?:=by
  rw[←hcs,List.getElem?_take,if_pos hj,List.getElem?_drop]
 have h7:M.rulesC.getD (i*5+j) 0=x:=by rw[List.getD_eq_getElem?_getD,hk];rfl
 rw[h6];simp only[show List.range 5=[0,1,2,3,4] from rfl,List.map_cons,List.map_nil,List.cons.injEq,DataW.lit.injEq,Lit.int.injEq,true_and,and_true] at h5;obtain⟨e0,e1,e2,e3,e4⟩:=h5
 match j,hj with
 | 0,_=>rw[←h7,←e0];rfl
 | 1,_=>rw[←h7,←e1];rfl
 | 2,_=>rw[←h7,←e2];rfl
 | 3,_=>rw[←h7,←e3];rfl
 | 4,_=>rw[←h7,←e4];rfl
end
set_option maxRecDepth 100000 in
theorem tab_of_laid {W:World}(h:laidMetH Tryz.prog laid4 W): TabL W:=by
 rw[MakeChecks.laidMetH_plain _ _ _ (by kernel_rfl)] at h;have h2:=h.tail.tail;have h3:=h2.tail;have e:(Rows.laid_internal_strconv_uint64pow10:DataW Unit)=Lib.tabData .u64 Lib.pow10Tab:=by kernel_rfl
 rw[e] at h2;refine⟨?_,Lib.tabIs_of_head gPow tPow Tryz.underlying220 Tryz.underlying92 (by kernel_rfl) (by kernel_rfl) h2⟩;obtain⟨ps,⟨g',t',cs,fuel,p,q,hg',ht',hvar,hd,_,_⟩,_⟩:=h3;obtain rfl:=Option.some.inj (gTab.symm.trans hg');obtain rfl:=Option.some.inj (tTab.symm.trans ht');intro k x hk;rw[World.var?_cell gTab hvar k,←Array.getElem?_toList];exact rules_cells hd k x hk
set_option linter.unusedSimpArgs false
set_option linter.unusedVariables false
open Go.RowKit
def fence (B N:Nat): List Value:=(List.range (N-B)).map fun i=>.slice (some ⟨B+i,0,none⟩) 0 0
theorem fence_own {B N k:Nat}{v:Value}(h:v∈fence B N)(hk:v.ownBlock=some k): B≤k∧k<N:=by
 unfold fence at h;obtain⟨i,hi,rfl⟩:=List.mem_map.1 h;rw[List.mem_range] at hi;have:B+i=k:=by injection hk
 omega
theorem fence_has {B N k:Nat}(h1:B≤k)(h2:k<N): ∃v∈fence B N,v.ownBlock=some k:=
 ⟨.slice (some ⟨B+(k-B),0,none⟩) 0 0,List.mem_map.2 ⟨k-B,by rw[List.mem_range];omega,rfl⟩,by show some (B+(k-B))=some k;congr 1;omega⟩
theorem qt_fence {g B N k:Nat}{vs xs:List Value}: qt g (vs++(fence B N++xs)) k↔qt g (vs++xs) k∧¬(B≤k∧k<N):=by
 constructor
 ·intro h;refine⟨⟨h.1,fun v hv=>h.2 v ?_⟩,fun hk=>?_⟩
  ·rcases List.mem_append.1 hv with hv|hv
   ·exact List.mem_append_left _ hv
   ·exact List.mem_append_right _ (List.mem_append_right _ hv)
  ·obtain⟨v,hv,e⟩:=fence_has hk.1 hk.2;exact h.2 v (List.mem_append_right _ (List.mem_append_left _ hv)) e
 ·rintro⟨h,hk⟩;refine⟨h.1,fun v hv e=>?_⟩;rcases List.mem_append.1 hv with hv|hv
  ·exact h.2 v (List.mem_append_left _ hv) e
  ·rcases List.mem_append.1 hv with hv|hv
   ·exact hk (fence_own hv e)
   ·exact h.2 v (List.mem_append_right _ hv) e
theorem fence_sub {g B N:Nat}{vs xs:List Value}{w w1:World}(e:Ext w w1)(hB:w.heap.size≤B): Sub (gp (qt g (vs++xs)) w) (gp (qt g (vs++(fence B N++xs))) w1):=
 gpv_mono e.size fun k hk hq=>⟨qt_fence.2 ⟨hq,by omega⟩,e.block k hk⟩
theorem LSt.fence {W:World}{g:Nat}{hv cv:Value}{xs:List Value}{st:M.LS}{w w1:World}(h:LSt W g hv cv xs st w)(e:Ext w w1){B N:Nat}(hB:w.heap.size≤B)(hN:N≤w1.heap.size): LSt W g hv cv (fence B N++xs) st w1 where
 ext:=h.ext.trans e
 tab:=h.tab
 low:=⟨⟨h.low.1.1,Nat.lt_of_lt_of_le h.low.1.2 e.size⟩,fun v hv2 k hk=>by
  have hcase:v∈hv::cv::xs∨v∈Go.Proofs.YtoenjbkmiphhoaaGreatDoor.Q.fence B N:=by
   simp only[List.mem_cons,List.mem_append] at hv2 ⊢
   rcases hv2 with h|h|h|h
   ·exact .inl (.inl h)
   ·exact .inl (.inr (.inl h))
   ·exact .inr h
   ·exact .inl (.inr (.inr h))
  rcases hcase with h2|h2
  ·obtain⟨a,b,c⟩:=h.low.2 v h2 k hk
   exact⟨a,Nat.lt_of_lt_of_le b e.size,c⟩
  ·have h3:=fence_own h2 hk
   have h4:=h.low.1
   have h5:=h.ext.size
   omega⟩
 box:=h.box.up e
 held:=(h.held.up e).world tck (fence_sub (vs:=[hv,cv]) (xs:=xs) e hB)
 cons:=(h.cons.up e).world cck (fence_sub (vs:=[hv,cv]) (xs:=xs) e hB)
 apart:=h.apart
theorem fence_out {g B N:Nat}{vs xs:List Value}{w w1:World}(hs:w.heap.size≤w1.heap.size)(hk:∀k,k<w.heap.size→k≠g→¬(B≤k∧k<N)→w1.heap[k]?=w.heap[k]?): Sub (gp (qt g (vs++(fence B N++xs))) w) (gp (qt g (vs++xs)) w1):=
 gpv_mono hs fun k hk' hq=>⟨(qt_fence.1 hq).1,hk k hk' hq.1 (qt_fence.1 hq).2⟩
theorem LSt.unfence {W:World}{g:Nat}{hv cv:Value}{xs:List Value}{st:M.LS}{w w1:World}{B N:Nat}(h:LSt W g hv cv (Go.Proofs.YtoenjbkmiphhoaaGreatDoor.Q.fence B N++xs) st w)(hb:Below 0 w w1)(hk:∀k,k<w.heap.size→¬(B≤k∧k<N)→w1.heap[k]?=w.heap[k]?)(hB:W.heap.size≤B)
 (ho:∀k,B≤k→k<N→qt g [hv,cv] k):LSt W g hv cv xs st w1 where
 ext:=Below.trans (B:=W.heap.size) h.ext ⟨hb.os,hb.tape,hb.output,hb.size,fun k hk'=>hk k (Nat.lt_of_lt_of_le hk' h.ext.size) (by omega)⟩
 tab:=h.tab
 low:=⟨⟨h.low.1.1,Nat.lt_of_lt_of_le h.low.1.2 hb.size⟩,fun v hv2 k hk2=>by
  obtain⟨a,b,c⟩:=h.low.2 v (by simp only[List.mem_cons,List.mem_append] at hv2 ⊢;rcases hv2 with h|h|h<;>simp[h]) k hk2;exact⟨a,Nat.lt_of_lt_of_le b hb.size,c⟩⟩
 box:=(hk g h.box.lt (fun h2=>(ho g h2.1 h2.2).1 rfl)).trans h.box
 held:=(own_kept h.held fun b hb2=>hk b (h.low.2 hv (by simp) b hb2).2.1 (fun h2=>(ho b h2.1 h2.2).2 hv (by simp) hb2)).world tck (fence_out (vs:=[hv,cv]) (xs:=xs) hb.size fun k h1 _ h3=>hk k h1 h3)
 cons:=(own_kept h.cons fun b hb2=>hk b (h.low.2 cv (by simp) b hb2).2.1 (fun h2=>(ho b h2.1 h2.2).2 cv (by simp) hb2)).world cck (fence_out (vs:=[hv,cv]) (xs:=xs) hb.size fun k h1 _ h3=>hk k h1 h3)
 apart:=h.apart
theorem put6_keptB {B:Nat}{X:List Nat}{w:World}{k:Nat}{x0 x1 x2 x3 x4 x5:Value}(hk:B≤k): KeptB B X w (put6 w k x0 x1 x2 x3 x4 x5):=
 ⟨(put6_kept (w:=w) (k:=k)).1,fun i hi hb _=>put6_kept.2 i hi (by simp;omega)⟩
theorem quiet_cell {g B:Nat}{hv cv:Value}{xs:List Value}{w w1 w':World}{p:Addr}{v:Value}(h:(gp (qt g (hv::cv::xs)) w).cell? p=some v)(e:Ext w w1)(hB:w.heap.size≤B)(k:KeptB B (bls g [hv,cv]) w1 w'): w'.cell? p=some v:=by
 obtain⟨h1,h2⟩:=gp_cell.1 h;have hl:=World.block_lt_of_cell? w _ h2;have h3:=e.cell h2;have hl1:=World.block_lt_of_cell? w1 _ h3;rw[←h3];exact World.cell?_of_block (k.2 _ hl1 (by omega) (bls_not.2 ⟨h1.1,fun v hv2=>h1.2 v (by simp at hv2;rcases hv2 with rfl|rfl<;>simp)⟩))
theorem M.frT_few {n s:Int}(hn:n≤9223372036854775807): M.kfew (M.frT n s)=true:=by
 have h3:=Go.Lib.decDigits_length (max 0 n).toNat;have h4:=Go.Lib.nDigits_le20 (max 0 n).toNat (by omega);unfold M.frT M.frName;rw[M.kfew,M.kfews];simp;omega
theorem M.knum0_few:M.kfew (M.knumT 0)=true:=by decide +kernel
theorem hx_bls {W:World}{g:Nat}{hv cv:Value}{xs:List Value}{st:M.LS}{w:World}(h:LSt W g hv cv xs st w): ∀x∈bls g [hv,cv],x<w.heap.size:=fun x hx=>by
 unfold bls at hx;simp only[List.mem_cons,List.mem_flatMap,Option.mem_toList] at hx;rcases hx with rfl|⟨v,hv2,e⟩
 ·exact h.low.1.2
 ·exact(h.low.2 v (by rcases hv2 with rfl|rfl|h2<;>first|(cases h2;done)|simp) x e).2.1
theorem IsTm.kvs {w:World}{t:M.Tm}{v:Value}(h:IsTm w t v): ∃(o1:Int) (o2:Bool) (N:Option Addr) (nn nc:Nat) (o3:List UInt8) (o4:Int) (A:Option Addr) (n c:Nat),v=kv o1 o2 N nn nc o3 o4 A n c:=by
 obtain⟨N,nn,nc,A,c,e,-,-⟩:=h;exact⟨_,_,_,_,_,_,_,_,_,_,e⟩
theorem IsTm.qk {g:Nat}{vs:List Value}{w w':World}{t:M.Tm}{v:Value}(h:IsTm (gp (qt g vs) w) t v)(hk:Kept [g] w w'): IsTm (gp (qt g vs) w') t v:=
 h.sub (gpv_mono hk.1.size fun k hk' hq=>⟨hq,hk.2 k hk' (by simpa using hq.1)⟩)
theorem Turn.qx {B g k:Nat}{hv cv hv' cv':Value}{xs:List Value}{w w':World}{cs:Array Value}{T:TypeId}(h:Turn B g [hv,cv] w [hv',cv'] w')(hb:Box w k cs T)(hq:qt g (hv::cv::xs) k): Box w' k cs T∧qt g (hv'::cv'::xs) k:=by
 obtain⟨a1,a2⟩:=h.box hb ⟨hq.1,fun v hv2=>hq.2 v (by simp at hv2;rcases hv2 with rfl|rfl<;>simp)⟩;refine⟨a1,a2.1,fun v hv2=>?_⟩;simp only[List.mem_cons] at hv2;rcases hv2 with rfl|rfl|hv2
 ·exact a2.2 _ (by simp)
 ·exact a2.2 _ (by simp)
 ·exact hq.2 v (by simp[hv2])
theorem kfews_kat {l:List M.Tm}(h:M.kfews l=true){k:Nat}(hk:k<l.length): M.kfew (M.kat l k)=true:=by
 obtain⟨t,ht⟩:∃t,l[k]?=some t:=⟨_,List.getElem?_eq_getElem hk⟩;rw[M.kat_of ht];exact M.kfews_at h ht
theorem M.kmake_few {op:Int}{l:List M.Tm}(h:M.kfews l=true): M.kfew (M.kmake op l).1=true:=by
 have h0:M.kfew M.K0=true:=by decide
 unfold M.kmake
 repeat' split
 all_goals first|exact h0|skip
 rw[M.kfew,h];rfl
theorem M.ofT_few {op:Int}{l:List M.Tm}{r:Bool}(h:M.kfews l=true): M.kfew (M.ofT op l r).1=true:=by
 unfold M.ofT
 split
 ·decide
 ·exact M.kmake_few h
namespace M
def Room (m:Nat)(st:LS): Prop:=(-9000000000000000000≤st.next∧st.next+m≤9000000000000000000)∧st.held.length+2*m≤800000∧st.cons.length+m≤800000
theorem Room.less {m n:Nat}{st:LS}(h:Room m st)(hn:n≤m): Room n st:=by
 obtain⟨⟨a,b⟩,c,d⟩:=h;exact⟨⟨a,by omega⟩,by omega,by omega⟩
theorem sizeL_len {t:Tm}{st:LS}: (sizeL t st).next=st.next+1∧(sizeL t st).held.length=st.held.length+2∧(sizeL t st).cons.length=st.cons.length+1:=by
 refine⟨rfl,?_,?_⟩
 ·show ((st.held++[_])++[_]).length=_;simp
 ·show (st.cons++[_]).length=_;simp
theorem chosenL_len {t:Tm}{st:LS}: (chosenL t st).next=st.next+1∧(chosenL t st).held.length=st.held.length+2∧(chosenL t st).cons.length=st.cons.length+1:=by
 refine⟨rfl,?_,?_⟩
 ·show ((st.held++[_])++[_]).length=_;simp
 ·show (st.cons++[_]).length=_;simp
theorem lfAct_room {t:Tm}{st:LS}{m:Nat}(h:Room (1+m) st): Room m (lfAct t st).2:=by
 obtain⟨⟨a,b⟩,c,d⟩:=h;unfold lfAct
 split
 ·obtain⟨e1,e2,e3⟩:=sizeL_len (t:=t) (st:=st);exact⟨⟨by show _≤(sizeL t st).next;omega,by show (sizeL t st).next+_≤_;omega⟩,by show (sizeL t st).held.length+_≤_;omega,by show (sizeL t st).cons.length+_≤_;omega⟩
 ·split
  ·obtain⟨e1,e2,e3⟩:=chosenL_len (t:=t) (st:=st);exact⟨⟨by show _≤(chosenL t st).next;omega,by show (chosenL t st).next+_≤_;omega⟩,by show (chosenL t st).held.length+_≤_;omega,by show (chosenL t st).cons.length+_≤_;omega⟩
  ·exact⟨⟨a,by show st.next+_≤_;omega⟩,by show st.held.length+_≤_;omega,by show st.cons.length+_≤_;omega⟩
theorem lfTs_room:∀(ks:List Tm) (st:LS) (m:Nat),(∀(k:Nat) (t:Tm),ks[k]?=some t→∀(st:LS) (m:Nat),Room (kcnt t+m) st→Room m (lfT t st).2)→Room (kcnts ks+m) st→Room m (lfTs ks st).2
 | [],st,m,_,h=>by rw[lfTs];exact h.less (by omega)
 | t::r,st,m,ih,h=>by
  rw[lfTs];rw[kcnts] at h;exact lfTs_room r _ m (fun k u hu=>ih (k+1) u (by simpa using hu)) (ih 0 t rfl st _ (h.less (by omega)))
theorem lfT_room (t:Tm): ∀(st:LS) (m:Nat),Room (kcnt t+m) st→Room m (lfT t st).2:=by
 refine Tm.indA (P:=fun t=>∀(st:LS) (m:Nat),Room (kcnt t+m) st→Room m (lfT t st).2) (fun op g ls nm s ks ih st m h=>?_) t;rw[lfT];rw[kcnt] at h;exact lfAct_room (lfTs_room ks st (1+m) ih (h.less (by omega)))
theorem lfTs_rooms {ks:List Tm}{st:LS}{m:Nat}(h:Room (kcnts ks+m) st): Room m (lfTs ks st).2:=lfTs_room ks st m (fun _ u _=>lfT_room u) h
theorem kfew_mk {op:Int}{g:Bool}{ls:List Nat}{nm:List UInt8}{s:Int}{ks ks':List Tm}(h:kfew (.mk op g ls nm s ks)=true)(h':kfews ks'=true): kfew (.mk op g ls nm s ks')=true:=by
 rw[kfew] at h ⊢;simp only[Bool.and_eq_true] at h ⊢;exact⟨h.1,h.2.1,h'⟩
theorem lfAct_few {t:Tm}{st:LS}(h:kfew t=true)(hn:st.next≤9000000000000000000): kfew (lfAct t st).1=true:=by
 unfold lfAct
 split
 ·exact frT_few (by omega)
 ·split
  ·exact frT_few (by omega)
  ·exact h
theorem lfTs_few:∀(ks:List Tm) (st:LS) (m:Nat),(∀(k:Nat) (t:Tm),ks[k]?=some t→∀(st:LS) (m:Nat),Room (kcnt t+m) st→kfew t=true→kfew (lfT t st).1=true)→Room (kcnts ks+m) st→kfews ks=true→kfews (lfTs ks st).1=true
 | [],st,m,_,h,_=>by rw[lfTs];rfl
 | t::r,st,m,ih,h,hf=>by
  rw[lfTs];rw[kcnts] at h;rw[kfews,Bool.and_eq_true] at hf ⊢;exact⟨ih 0 t rfl st _ (show Room (kcnt t+(kcnts r+m)) st from h.less (by omega)) hf.1,lfTs_few r _ m (fun k u hu=>ih (k+1) u (by simpa using hu)) (lfT_room t st _ (h.less (by omega))) hf.2⟩
theorem lfT_few (t:Tm): ∀(st:LS) (m:Nat),Room (kcnt t+m) st→kfew t=true→kfew (lfT t st).1=true:=by
 refine Tm.indA (P:=fun t=>∀(st:LS) (m:Nat),Room (kcnt t+m) st→kfew t=true→kfew (lfT t st).1=true) (fun op g ls nm s ks ih st m h hf=>?_) t;rw[lfT];rw[kcnt] at h;have hr:Room 0 (lfTs ks st).2:=lfTs_rooms (h.less (by omega));have h2:kfews (lfTs ks st).1=true:=lfTs_few ks st (1+m) ih (h.less (by omega)) (kfew_parts hf).2.2;exact lfAct_few (kfew_mk hf h2) (by have:=hr.1.2;omega)
theorem lfTs_fews {ks:List Tm}{st:LS}{m:Nat}(h:Room (kcnts ks+m) st)(hf:kfews ks=true): kfews (lfTs ks st).1=true:=lfTs_few ks st m (fun _ u _=>lfT_few u) h hf
theorem lfTs_snoc:∀(l:List Tm) (t:Tm) (st:LS),lfTs (l++[t]) st=((lfTs l st).1++[(lfT t (lfTs l st).2).1],(lfT t (lfTs l st).2).2)
 | [],t,st=>by rw[List.nil_append,lfTs,lfTs,lfTs];rfl
 | x::r,t,st=>by rw[List.cons_append,lfTs,lfTs_snoc r t,lfTs];rfl
theorem kis_one {op:Int}{g:Bool}{ls:List Nat}{nm:List UInt8}{s:Int}{ks:List Tm}(h:kis (.mk op g ls nm s ks)=true): (op=18→ks.length=1)∧(op=12→ks.length=3)∧kiss ks=true:=by
 rw[kis,Bool.and_eq_true] at h;obtain⟨h1,h2⟩:=h;refine⟨fun e=>?_,fun e=>?_,h1⟩
 ·subst e;unfold khead at h2;rw[if_neg (by decide),if_neg (by decide),if_neg (by decide)] at h2;simp only[Bool.and_eq_true] at h2;have h3:kargs 18 ks.length=true:=h2.2.2.2.1;unfold kargs at h3;rw[if_pos (by decide)] at h3;exact of_decide_eq_true h3
 ·subst e;unfold khead at h2;rw[if_neg (by decide),if_neg (by decide),if_neg (by decide)] at h2;simp only[Bool.and_eq_true] at h2;have h3:kargs 12 ks.length=true:=h2.2.2.2.1;unfold kargs at h3;rw[if_neg (by decide),if_neg (by decide),if_pos rfl] at h3;exact of_decide_eq_true h3
end M
theorem LSt.push {W:World}{g:Nat}{hv cv x:Value}{xs:List Value}{st:M.LS}{w:World}(h:LSt W g hv cv xs st w)(hx:x.ownBlock=none): LSt W g hv cv (x::xs) st w where
 ext:=h.ext
 tab:=h.tab
 low:=⟨h.low.1,fun v hv2 k hk=>by
  simp only[List.mem_cons] at hv2
  rcases hv2 with rfl|rfl|rfl|hv2
  ·exact h.low.2 _ (by simp) k hk
  ·exact h.low.2 _ (by simp) k hk
  ·rw[hx] at hk;cases hk
  ·exact h.low.2 v (by simp[hv2]) k hk⟩
 box:=h.box
 held:=h.held.world tck (qt_mono fun v hv2=>by simp only[List.mem_cons] at hv2 ⊢;rcases hv2 with rfl|rfl|rfl|hv2<;>simp[*])
 cons:=h.cons.world cck (qt_mono fun v hv2=>by simp only[List.mem_cons] at hv2 ⊢;rcases hv2 with rfl|rfl|rfl|hv2<;>simp[*])
 apart:=h.apart
theorem LSt.drop {W:World}{g:Nat}{hv cv x:Value}{xs:List Value}{st:M.LS}{w:World}(h:LSt W g hv cv (x::xs) st w): LSt W g hv cv xs st w where
 ext:=h.ext
 tab:=h.tab
 low:=⟨h.low.1,fun v hv2 k hk=>h.low.2 v (by simp only[List.mem_cons] at hv2 ⊢;rcases hv2 with rfl|rfl|hv2<;>simp[*]) k hk⟩
 box:=h.box
 held:=h.held.world tck (qt_mono fun v hv2=>by simp only[List.mem_cons] at hv2 ⊢;rcases hv2 with rfl|rfl|hv2<;>simp[*])
 cons:=h.cons.world cck (qt_mono fun v hv2=>by simp only[List.mem_cons] at hv2 ⊢;rcases hv2 with rfl|rfl|hv2<;>simp[*])
 apart:=h.apart
theorem LSt.grow {W:World}{g:Nat}{hv cv x x':Value}{xs:List Value}{st:M.LS}{w w':World}(h:LSt W g hv cv (x::xs) st w)(hb:Below W.heap.size w w')(hg:w.grownBy w' x.ownBlock)(hx:x'.ownBlock=x.ownBlock∨x'.ownBlock=some w.heap.size)(hl:∀k,x'.ownBlock=some k→W.heap.size≤k∧k<w'.heap.size)
 (hq:∀k,x.ownBlock=some k→qt g [hv,cv] k):LSt W g hv cv (x'::xs) st w':=by
 have hT:=Turn.list (la:=[hv,cv]) (lb:=xs) h.low hb hg hx;have hS:Sub (gp (qt g (hv::cv::x::xs)) w) (gp (qt g (hv::cv::x'::xs)) w'):=by
  have:=hT.sub [];simpa using this
 exact {
  ext:=Below.trans (B:=W.heap.size) h.ext hb
  tab:=h.tab
  low:=Low.list (la:=[hv,cv]) (lb:=xs) h.low hb hx hl
  box:=(hg.block g h.low.1.2 (fun e=>(h.low.2 x (by simp) g e.symm).2.2 rfl)).trans h.box
  held:=(own_kept h.held fun b hb2=>hg.block b (h.low.2 hv (by simp) b hb2).2.1 fun e=>(hq b e.symm).2 hv (by simp) hb2).world tck hS
  cons:=(own_kept h.cons fun b hb2=>hg.block b (h.low.2 cv (by simp) b hb2).2.1 fun e=>(hq b e.symm).2 cv (by simp) hb2).world cck hS
  apart:=h.apart }
theorem LSt.aside {W:World}{g:Nat}{hv cv:Value}{xs:List Value}{st:M.LS}{w w':World}(h:LSt W g hv cv xs st w)(hb:Below W.heap.size w w')(hk:∀k,k<w.heap.size→k=g∨qt g (hv::cv::xs) k∨hv.ownBlock=some k∨cv.ownBlock=some k→w'.heap[k]?=w.heap[k]?): LSt W g hv cv xs st w':=by
 have hS:Sub (gp (qt g (hv::cv::xs)) w) (gp (qt g (hv::cv::xs)) w'):=gpv_mono hb.size fun k h1 h2=>⟨h2,hk k h1 (.inr (.inl h2))⟩
 exact {
  ext:=Below.trans (B:=W.heap.size) h.ext hb
  tab:=h.tab
  low:=h.low.ext hb.size
  box:=(hk g h.low.1.2 (.inl rfl)).trans h.box
  held:=(own_kept h.held fun b hb2=>hk b (h.low.2 hv (by simp) b hb2).2.1 (.inr (.inr (.inl hb2)))).world tck hS
  cons:=(own_kept h.cons fun b hb2=>hk b (h.low.2 cv (by simp) b hb2).2.1 (.inr (.inr (.inr hb2)))).world cck hS
  apart:=h.apart }
theorem fence_end {W:World}{g g0 N:Nat}{hv cv hv' cv':Value}{xs:List Value}{st':M.LS}{w w2 wf:World}{t:M.Tm}{u:Value}{X:List Nat}(hT:Turn W.heap.size g [hv,cv] w [hv',cv'] w2)(hs:LSt W g hv' cv' (fence g0 N++xs) st' w2)(hu:IsTm (gp (qt g (hv'::cv'::(fence g0 N++xs))) w2) t u)
 (hk:Kept X w2 wf) (hX:∀k∈X,g0≤k∧k<N) (hg:w.heap.size≤g0) (hW:W.heap.size≤w.heap.size) (hq:∀k,g0≤k→k<N→qt g [hv',cv'] k):GivesL W g hv cv xs t st' w (.returned u) wf:=by
 have hk2:∀k,k<w2.heap.size→¬(g0≤k∧k<N)→wf.heap[k]?=w2.heap[k]?:=fun k h1 h2=>hk.2 k h1 fun h=>h2 (hX k h);refine⟨u,hv',cv',rfl,hs.unfence hk.1 hk2 (by omega) hq,hu.sub (fence_out (vs:=[hv',cv']) (xs:=xs) hk.1.size fun k h1 _ h3=>hk2 k h1 h3),?_⟩;exact⟨Below.trans hT.1 (hk.below (X:=X) (Nat.le_trans hW hT.size) (fun x hx=>by have:=(hX x hx).1;omega)),fun k h1 h2=>by
  obtain⟨a1,a2⟩:=hT.2 k h1 h2;exact⟨a1,(hk2 k (Nat.lt_of_lt_of_le h1 hT.size) (by omega)).trans a2⟩⟩
end Go.Proofs.YtoenjbkmiphhoaaGreatDoor.Q
