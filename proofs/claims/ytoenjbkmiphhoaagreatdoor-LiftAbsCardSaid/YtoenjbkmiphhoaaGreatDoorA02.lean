/-
  Words for rows of limbs in memory: 'Num w C v l': the slice value v reads as the row l of 32-bit numbers, in a block below C.
-/
import Derived.Test.YtoenjbkmiphhoaaGreatDoorRows
import Derived.Test.YtoenjbkmiphhoaaGreatDoorA01
import Derived.WalkKit
import Derived.Handy
import Derived.Laws.OwnMore
import Derived.Deep.Draws
import Derived.Deep.QuietTactic
import Derived.BigQuiet
import Derived.Outline
namespace Go.Proofs.YtoenjbkmiphhoaaGreatDoor
set_option linter.unusedSimpArgs false
set_option linter.unusedVariables false
open Go.RowKit
theorem hid {p:Prop}(h:p): Hid p:=h
theorem ret_bool {a b:Bool}(h:a=b): Ending.returned (.bool a)=Ending.returned (.bool b):=by rw[h]
theorem ret_int {k:IntKind}{a b:Int}(h:a=b): Ending.returned (.int k a)=Ending.returned (.int k b):=by rw[h]
theorem addr_block (a:Addr)(n:Nat): (a.add n).block=a.block:=by unfold Addr.add;split<;>rfl
def Cells (w:World)(ad:Addr)(l:List Nat): Prop:=∀(i x:Nat),l[i]?=some x→w.cell? (ad.add i)=some (.int .u32 (x:Int))
def Row (w:World)(C:Nat)(A:Option Addr)(l:List Nat): Prop:=l≠[]→∃ad,A=some ad∧ad.block<C∧Cells w ad l
def Num (w:World)(C:Nat)(v:Value)(l:List Nat): Prop:=
 ∃A n c,v=.slice A n c∧n=l.length∧n≤c∧c≤maxLen∧(∀x∈l,x<4294967296)∧Row w C A l
theorem Row.at_ {w:World}{C:Nat}{A:Option Addr}{l:List Nat}(h:Row w C A l){k:Nat}(hk:k<l.length):
 ∃ad,A=some ad∧ad.block<C∧Cells w ad l:=h (by intro e;subst e;simp at hk)
theorem Cells.get {w:World}{ad:Addr}{l:List Nat}(h:Cells w ad l){k:Nat}(hk:k<l.length): w.cell? (ad.add k)=some (.int .u32 (l[k]:Int)):=
 h k _ (List.getElem?_eq_getElem hk)
theorem Row.get {w:World}{C:Nat}{A:Option Addr}{l:List Nat}(h:Row w C A l){k:Nat}(hk:k<l.length):
 ∃ad x,A=some ad∧ad.block<C∧Hid (l[k]?=some x)∧w.cell? (ad.add k)=some (.int .u32 (x:Int)):=by
 obtain⟨ad,e,hC,hc⟩:=h.at_ hk;exact⟨ad,l[k],e,hC,List.getElem?_eq_getElem hk,hc.get hk⟩
theorem Cells.keep {w w':World}{ad:Addr}{l:List Nat}{C:Nat}(h:Cells w ad l)(hC:ad.block<C)(hb:Below C w w'): Cells w' ad l:=by
 intro i x hx;rw[hb.cell (by rw[addr_block];exact hC)];exact h i x hx
theorem Row.keep {w w':World}{C D:Nat}{A:Option Addr}{l:List Nat}(h:Row w C A l)(hb:Below C w w')(hD:C≤D): Row w' D A l:=by
 intro hn;obtain⟨ad,e,hlt,hc⟩:=h hn;exact⟨ad,e,by omega,hc.keep hlt hb⟩
theorem Num.keep {w w':World}{C D:Nat}{v:Value}{l:List Nat}(h:Num w C v l)(hb:Below C w w')(hD:C≤D): Num w' D v l:=by
 obtain⟨A,n,c,rfl,hn,hc,hm,hs,hr⟩:=h;exact⟨A,n,c,rfl,hn,hc,hm,hs,hr.keep hb hD⟩
theorem Num.slice {w:World}{C:Nat}{v:Value}{l:List Nat}(h:Num w C v l): ∃A n c,v=.slice A n c:=by
 obtain⟨A,n,c,e,_⟩:=h;exact⟨A,n,c,e⟩
theorem Num.more {w:World}{C D:Nat}{v:Value}{l:List Nat}(h:Num w C v l)(hD:C≤D): Num w D v l:=h.keep (Below.refl _ _) hD
theorem Num.nil (w:World)(C:Nat): Num w C (.slice none 0 0) []:=⟨none,0,0,rfl,rfl,Nat.le_refl _,Nat.zero_le _,by simp,fun h=>absurd rfl h⟩
theorem Row.take {w:World}{C:Nat}{A:Option Addr}{l:List Nat}(h:Row w C A l)(k:Nat): Row w C A (l.take k):=by
 intro hn;obtain⟨ad,e,hlt,hc⟩:=h (by rintro rfl;simp at hn);refine⟨ad,e,hlt,fun i x hx=>hc i x ?_⟩;rw[List.getElem?_take] at hx
 split at hx
 ·exact hx
 ·cases hx
theorem below_drewN {B:Nat}{a w:World}(h:Below B a w)(n:Nat): Below B a (w.drewN n):=⟨h.os,h.tape,h.output,h.size,h.block⟩
def Own (base:Nat)(w:World)(v:Value)(l:List Nat): Prop:=w.ownsRow base 114 1 v l.length (l.map fun x:Nat=>Value.int .u32 (x:Int))∧∀x∈l,x<4294967296
theorem info_u32:(Tryz.prog.info? 114).map (fun i=>(i.zero,i.size,i.bytes))=some (some (.int .u32 0),1,4):=by kernel_rfl
theorem Own.num {base:Nat}{w:World}{v:Value}{l:List Nat}(h:Own base w v l): Num w w.heap.size v l:=by
 obtain⟨h,hs⟩:=h;have hh:=h;obtain⟨hl,h2⟩:=h;rcases h2 with⟨rfl,h0⟩|⟨g,cap,cur,rfl,hb,hg,hc,hm,_,_⟩
 ·have:l=[]:=List.eq_nil_of_length_eq_zero h0;subst this;exact Num.nil _ _
 ·refine⟨_,_,_,rfl,rfl,hc,hm,hs,fun hn=>⟨_,rfl,(Array.getElem?_eq_some_iff.1 hg).1,fun i x hx=>?_⟩⟩;exact hh.cells (g:=g) rfl i _ (by rw[List.getElem?_map,hx];rfl)
theorem Own.made (w:World)(cur:Array Value)(cap:Nat)(base:Nat)(hb:base≤w.heap.size)(hm:cap≤maxLen)(hs:cur.size=cap): Own base (w.alloc (.cells cur 114)) (.slice (some ⟨w.heap.size,0,none⟩) 0 cap) []:=
 ⟨World.ownsRow_made w cur cap hb hm (by rw[hs,Nat.mul_one]),by simp⟩
theorem Own.nil (w:World)(base:Nat): Own base w (.slice none 0 0) []:=⟨World.ownsRow_nil w base _ 1,by simp⟩
theorem Own.alloc {base:Nat}{w:World}{v:Value}{l:List Nat}(h:Own base w v l)(o:Obj): Own base (w.alloc o) v l:=⟨h.1.alloc o,h.2⟩
theorem Own.grow {base:Nat}{w w':World}{v:Value}{l:List Nat}(h:Own base w v l)(hb:Below w.heap.size w w'): Own base w' v l:=
 ⟨h.1.kept (row:=none) ⟨hb.os,hb.tape,hb.output,hb.size,fun k hk _=>hb.block k hk⟩ (by cases v.ownBlock<;>simp),h.2⟩
theorem Own.below {base:Nat}{w w':World}{v:Value}{l:List Nat}(h:Own base w v l)(hg:w.grownBy w' v.ownBlock){B:Nat}(hB:B≤base)(hb:base≤w.heap.size): Below B w w':=
 (Below.refl _ _).grown hg (by omega) fun k hk=>by have:=(h.1.lt k hk).1;omega
def zeros (c:Nat): Array Value:=(List.replicate c (Value.int .u32 0)).toArray
theorem zeros_size (c:Nat): (zeros c).size=c:=by simp[zeros]
theorem made_zeros (c:Nat): madeCells (Value.int .u32 0).cells (c*1)=zeros c:=by
 apply Array.ext'
 rw[zeros,Nat.mul_one]
 apply List.ext_getElem?
 intro i;simp[madeCells,Value.cells,List.getElem?_replicate,Nat.mod_one]
 by_cases h:i<c<;>simp[h]
theorem make_u32 (kl kc:IntKind)(l c:Int)(a b:Nat)(hl:l=(a:Int))(hc:c=(b:Int))(hlc:a≤b)(hb:b≤1000000000)(w:World):
 (Instr.makeSlice 22 (.int kl l) (.int kc c)).run Tryz.prog w=.ok (.slice (some ⟨w.heap.size,0,none⟩) a b) (w.alloc (.cells (zeros b) 114)):=by
 obtain⟨i0,hi,hz0,hz1,hz2⟩:=info_parts info_u32;subst hl hc;have:=run_make (P:=Tryz.prog) w 22 114 i0 (.int .u32 0) Tryz.underlying22 hi hz0 kl kc (a:Int) (b:Int) (by omega) (by omega) (by rw[hz2];omega) (by omega);rw[this,hz1,Int.toNat_natCast,Int.toNat_natCast,made_zeros]
theorem wpList_app1 {w:World}{ops:Array Oper}{rest:List Oper}{o:Oper}{a:Act}{Q:Exit→Act→World→Prop}(hgd:o.guard=none)(s x:Operand)
 (ho:o.op=.call { callee:=.builtin .append,args:=#[s,x],argTypes:=#[22,22] })
 (base:Nat) (v:Value) (l:List Nat) (hs:a.eval s=v) (hown:Own base w v l) (g:Nat) (y:Nat) (hx:a.eval x=.slice (some ⟨g,0,none⟩) 1 1)
 (hc:w.cell? ⟨g,0,none⟩=some (.int .u32 (y:Int))) (hy:y<4294967296) (hlen:l.length+1≤1000000000) (hbase:base≤w.heap.size)
 (h:∀v' w',Own base w' v' (l++[y])→w.grownBy w' v.ownBlock→wpList Tryz.prog ops Q rest (a.put o.dst v') w'):wpList Tryz.prog ops Q (o::rest) a w:=by
 obtain⟨i0,hi,hz0,hz1,hz2⟩:=info_parts info_u32;refine wpList_append_own w hgd s x 22 ho base 114 i0 (.int .u32 0) 1 4 Tryz.underlying22 hi hz0 hz1 hz2 rfl (by decide) v l.length _ hs hown.1 ⟨g,0,none⟩ 1 1 [.int .u32 (y:Int)] hx rfl ?_ ?_ (by unfold maxLen;omega) (by omega) hbase ?_
 ·intro j u hj;rcases j with _|j
  ·simp at hj;subst hj;rw[Addr.add_lit];exact hc
  ·simp at hj
 ·intro u hu;simp at hu;subst hu;rfl
 ·intro v' w' h1 h2 _;refine h v' w' ⟨?_,?_⟩ h2
  ·simpa using h1
  ·intro t ht;rw[List.mem_append] at ht;rcases ht with ht|ht
   ·exact hown.2 t ht
   ·simp at ht;subst ht;exact hy
def Blk (w:World)(g:Nat)(l:List Nat): Prop:=w.heap[g]?=some (.cells (l.map fun x:Nat=>Value.int .u32 (x:Int)).toArray 114 (0,0))
theorem Blk.made (w:World)(n:Nat): Blk (w.alloc (.cells (zeros n) 114)) w.heap.size (List.replicate n 0):=by
 unfold Blk;rw[heap_alloc_new w _];simp[zeros]
theorem Blk.lt {w:World}{g:Nat}{l:List Nat}(h:Blk w g l): g<w.heap.size:=(Array.getElem?_eq_some_iff.1 h).1
theorem Blk.cell {w:World}{g:Nat}{l:List Nat}(h:Blk w g l){i x:Nat}(hx:l[i]?=some x): w.cell? ⟨g,i,none⟩=some (.int .u32 (x:Int)):=by
 rw[cell_of_row w g i _ 114 (0,0) h];simp[hx]
theorem Blk.frozen {w:World}{g:Nat}{l:List Nat}(h:Blk w g l)(i:Nat): w.frozen? ⟨g,i,none⟩=false:=by
 unfold Blk at h;simp[World.frozen?,h]
theorem Blk.set_ {w:World}{g:Nat}{l:List Nat}(h:Blk w g l)(i x:Nat): Blk (w.setCell ⟨g,i,none⟩ (.int .u32 (x:Int))) g (l.set i x):=by
 unfold Blk at h ⊢;simp[World.setCell,Array.getElem?_modify,h,List.map_set]
theorem Blk.put {w:World}{g:Nat}{l:List Nat}(h:Blk w g l)(i:Nat){x:Nat}{z:Int}(hz:z=(x:Int)): Blk (w.setCell ⟨g,i,none⟩ (.int .u32 z)) g (l.set i x):=by
 subst hz;exact h.set_ i x
theorem Blk.grow {w w':World}{g:Nat}{l:List Nat}(h:Blk w g l)(hb:Below w.heap.size w w'): Blk w' g l:=(hb.block g h.lt).trans h
theorem Blk.far {w:World}{g:Nat}{l:List Nat}(h:Blk w g l){p:Addr}(hp:g≠p.block)(u:Value): Blk (w.setCell p u) g l:=(Below.heap_setCell w p u g hp).trans h
theorem Blk.num {w:World}{g:Nat}{l:List Nat}(h:Blk w g l)(hs:∀x∈l,x<4294967296)(hm:l.length≤maxLen){n:Nat}(hn:n=l.length): Num w w.heap.size (.slice (some ⟨g,0,none⟩) n n) l:=
 ⟨_,n,n,rfl,hn,Nat.le_refl _,by omega,hs,fun _=>⟨_,rfl,h.lt,fun i x hx=>by rw[Addr.add_lit,Nat.zero_add];exact h.cell hx⟩⟩
def Gives (w:World)(l:List Nat)(e:Ending)(w':World): Prop:=∃v,e=.returned v∧Num w' w'.heap.size v l∧Below w.heap.size w w'
theorem dec_lt {a b:Int}(h:a<b): decide (b≤a)=false:=by simpa using h
theorem is_any (w:World)(v:Value)(l:List Nat){C:Nat}(hv:Num w C v l):
 Calls Tryz.prog 107 #[v] w fun e w'=>e=.returned (.bool (M.isNat l))∧w=w':=by
 obtain⟨A,n,c,rfl,hn,hc,hm,hs,hr⟩:=hv;have hb:n≤9223372036854775807:=by unfold maxLen at hm;omega
 have HR:=hid hr;have HN:=hid hn;have HS:=hid hs;clear hr hn hs hm hc;go_enter Tryz.func107,Tryz.ntmps107
 go_wp2;go_loop [7] (fun i=>∃k:Nat,k≤n∧i=.int .i64 k∧M.small (l.take k)=true) (fun i=>n-(intOf i).toNat)
 case atStart=>exact⟨0,Nat.zero_le _,rfl,rfl⟩
 case round=>
  obtain⟨k,hk,rfl,hsm⟩:=hrel;have HSM:=hid hsm;clear hsm
  by_cases hlt:k<n
  ·obtain⟨ad,x,rfl,_,HX,hcell⟩:=HR.out.get (k:=k) (by rw[←HN.out];exact hlt)
   by_cases hx:(x:Int)<1000000000
   ·have hx1:=dec_lt hx;have HX2:=hid hx;clear hx;go_wp2;go_round
    case rel=>exact⟨k+1,by omega,by go_num,M.small_snoc HX.out HSM.out (by have:=HX2.out;omega)⟩
    case measure=>simp[intOf];all_goals omega
   ·have hx1:(1000000000:Int)≤x:=by omega
    go_wp2;go_ret;exact⟨ret_bool (M.isNat_big HX.out (by omega)).symm,rfl⟩
  ·by_cases h0:n=0
   ·subst h0;go_wp2;go_ret;have:l=[]:=List.eq_nil_of_length_eq_zero HN.out.symm;exact⟨by subst this;rfl,rfl⟩
   ·obtain⟨ad,x,rfl,_,HX,hcell⟩:=HR.out.get (k:=n-1) (by rw[←HN.out];omega);have h1:1≤n:=by omega
    go_wp2;go_ret;have e:M.isNat l=decide (x≠0):=M.isNat_end (by have:=HSM.out;rwa [List.take_of_length_le (by rw[←HN.out];omega)] at this) (by rw[←HN.out];exact HX.out);refine⟨?_,rfl⟩;rw[e];have:¬(n:Int)=0:=by omega
    congr 2
    by_cases hx:x=0<;>simp[hx,this]
    all_goals omega
theorem natural_any (w:World)(v:Value)(l:List Nat){C:Nat}(hv:Num w C v l):
 Calls Tryz.prog 246 #[v] w fun e w'=>(∃v',e=.returned v'∧Num w C v' (M.nat l))∧w=w':=by
 have HV:=hid hv;have HI:=is_any w v l hv;have HI2:=hid HI;clear HI hv
 by_cases h:M.isNat l=true
 ·have H:=hid h;go_enter Tryz.func246,Tryz.ntmps246
  go_wp2_with fail
  refine HI2.out.mono ?_;rintro e w' ⟨rfl,rfl⟩;go_wp2;go_ret;exact⟨⟨_,rfl,by rw[M.nat,if_pos H.out];exact HV.out⟩,rfl⟩
 ·have h':M.isNat l=false:=by simpa using h
  have H:=hid h';clear h;go_enter Tryz.func246,Tryz.ntmps246
  go_wp2_with fail
  refine HI2.out.mono ?_;rintro e w' ⟨rfl,rfl⟩;go_wp2;go_ret;exact⟨⟨_,rfl,by rw[M.nat,if_neg (by rw[H.out];simp)];exact Num.nil _ _⟩,rfl⟩
theorem limbs_len3 {n:Nat}(h:n≤18446744073709551615): (M.limbs n).length≤3:=M.limbs_length_le (by omega)
theorem of_any (n:Nat)(hn:(n:Int)≤18446744073709551615)(w:World):
 Calls Tryz.prog 72 #[.int .u64 (n:Int)] w (Gives w (M.limbs n)):=by
 have HL:=hid (limbs_len3 (n:=n) (by omega));have hmk:∀W:World,(Instr.makeSlice 22 (.int .i64 0) (.int .i64 3)).run Tryz.prog W=.ok (.slice (some ⟨W.heap.size,0,none⟩) 0 3) (W.alloc (.cells (zeros 3) 114)):=
  make_u32 _ _ 0 3 0 3 rfl rfl (by omega) (by omega)
 go_enter Tryz.func72,Tryz.ntmps72
 go_wp2;go_loopw[0,3] (fun s0 v wr=>∃(q:Nat) (l:List Nat),s0=.int .u64 (q:Int)∧(q:Int)≤18446744073709551615∧M.limbs n=l++M.limbs q∧Own w.heap.size wr v l∧Below w.heap.size w wr) (fun s0 _ _=>(intOf s0).toNat)
 case atStart=>exact⟨n,[],rfl,hn,rfl,Own.made w _ 3 _ (Nat.le_refl _) (by decide) (zeros_size 3),(Below.refl _ _).alloc (Nat.le_refl _) _⟩
 case round=>
  obtain⟨q,l,rfl,hq,he,hown,hbel⟩:=hrel;have HE:=hid he;clear he;have HO:=hid hown;have HB:=hid hbel;clear hown hbel
  by_cases h0:0<q
  ·go_wp2_with (at_builtin;go_loud (refine wpList_app1 rfl (.tmp 9) (.tmp 13) rfl w.heap.size _ l rfl (HO.out.alloc _) wr.heap.size (q%1000000000) rfl ?c1 ?c3 ?c4 ?c5 ?_))
   case c1=>simp[go_sem]
   case c3=>omega
   case c4=>
    have h1:=HL.out;rw[HE.out,List.length_append,M.limbs_pos (by omega),List.length_cons] at h1;omega
   case c5=>have:=HB.out.size;simp;omega
   intro v' w1 hown' hgrow;have HO':=hid hown';have HG:=hid hgrow;clear hown' hgrow;go_wp2;go_roundw
   case rel=>
    refine⟨q/1000000000,l++[q%1000000000],by go_num,by omega,?_,HO'.out,?_⟩
    ·rw[HE.out,M.limbs_pos (by omega)];simp
    ·have hz:=HB.out.size;exact(HB.out.alloc (by omega) _).trans ((HO.out.alloc _).below HG.out (Nat.le_refl _) (by simp;omega))
   case measure=>simp[intOf];all_goals omega
  ·have:q=0:=by omega
   subst this;go_wp2;go_ret;refine⟨_,rfl,?_,HB.out⟩;have:=HO.out.num;rw[HE.out,M.limbs_zero,List.append_nil];exact this
theorem natOf_any (n:Nat)(hn:(n:Int)≤18446744073709551615)(w:World):
 Calls Tryz.prog 54 #[.int .u64 (n:Int)] w (Gives w (M.limbs n)):=by
 have HL:=hid (limbs_len3 (n:=n) (by omega));go_enter Tryz.func54,Tryz.ntmps54
 go_wp2;go_loopw[0,3] (fun s0 v wr=>∃(q:Nat) (l:List Nat),s0=.int .u64 (q:Int)∧(q:Int)≤18446744073709551615∧M.limbs n=l++M.limbs q∧Own w.heap.size wr v l∧Below w.heap.size w wr) (fun s0 _ _=>(intOf s0).toNat)
 case atStart=>exact⟨n,[],rfl,hn,rfl,Own.nil _ _,Below.refl _ _⟩
 case round=>
  obtain⟨q,l,rfl,hq,he,hown,hbel⟩:=hrel;have HE:=hid he;clear he;have HO:=hid hown;have HB:=hid hbel;clear hown hbel
  by_cases h0:0<q
  ·go_wp2_with (at_builtin;refine wpList_app1 rfl (.tmp 6) (.tmp 10) rfl w.heap.size _ l rfl (HO.out.alloc _) wr.heap.size (q%1000000000) rfl ?c1 ?c3 ?c4 ?c5 ?_)
   case c1=>simp[go_sem]
   case c3=>omega
   case c4=>
    have h1:=HL.out;rw[HE.out,List.length_append,M.limbs_pos (by omega),List.length_cons] at h1;omega
   case c5=>have:=HB.out.size;simp;omega
   intro v' w' hown' hgrow;have HO':=hid hown';have HG:=hid hgrow;clear hown' hgrow;go_wp2;go_roundw
   case rel=>
    refine⟨q/1000000000,l++[q%1000000000],by go_num,by omega,?_,HO'.out,?_⟩
    ·rw[HE.out,M.limbs_pos (by omega)];simp
    ·have hz:=HB.out.size;exact(HB.out.alloc (by omega) _).trans ((HO.out.alloc _).below HG.out (Nat.le_refl _) (by simp;omega))
   case measure=>simp[intOf];all_goals omega
  ·have:q=0:=by omega
   subst this;go_wp2;go_ret;refine⟨_,rfl,?_,HB.out⟩;have:=HO.out.num;rw[HE.out,M.limbs_zero,List.append_nil];exact this
theorem same_any (w:World)(u v:Value)(l m:List Nat){C D:Nat}(hu:Num w C u l)(hv:Num w D v m):
 Calls Tryz.prog 55 #[u,v] w fun e w'=>e=.returned (.bool (decide (l=m)))∧∃k,w'=w.drewN k:=by
 obtain⟨A,n,c,rfl,hn,hc,hm,hs,hr⟩:=hu;obtain⟨A',n',c',rfl,hn',hc',hm',hs',hr'⟩:=hv;have hb:n≤9223372036854775807:=by unfold maxLen at hm;omega
 have HR:=hid hr;have HR':=hid hr';have HN:=hid hn;have HN':=hid hn';clear hr hn hs hm hr' hn' hs' hm' hc hc'
 by_cases hnn:n=n'
 ·subst hnn;go_enter Tryz.func55,Tryz.ntmps55
  go_wp2;go_loopw[5] (fun i wr=>∃k p:Nat,k≤n∧i=.int .i64 k∧wr=w.drewN p∧l.take k=m.take k) (fun i _=>n-(intOf i).toNat)
  case atStart=>exact⟨0,0,Nat.zero_le _,rfl,rfl,rfl⟩
  case round=>
   obtain⟨k,p,hk,rfl,rfl,he⟩:=hrel;have HE:=hid he;clear he
   by_cases hlt:k<n
   ·obtain⟨ad,x,rfl,_,HX,hcell⟩:=HR.out.get (k:=k) (by rw[←HN.out];exact hlt);obtain⟨ad',x',rfl,_,HX',hcell'⟩:=HR'.out.get (k:=k) (by rw[←HN'.out];exact hlt)
    by_cases hx:x=x'
    ·subst hx;go_wp2;go_quiet (fail)
     go_wp2;go_roundw
     case rel=>exact⟨k+1,p+nq,by omega,by go_num,rfl,by rw[List.take_add_one,List.take_add_one,HE.out,HX.out,HX'.out]⟩
     case measure=>simp[intOf];all_goals omega
    ·have hx':=hid hx;have hne:((x:Int) != (x':Int))=true:=by simpa using (by omega:¬(x:Int)=x')
     clear hx;go_wp2;go_quiet (fail)
     go_wp2;go_ret;refine⟨ret_bool ?_,p+nq,World.drewN_drewN _ _ _⟩;have:l≠m:=by
      rintro rfl;have:=HX.out;rw[HX'.out] at this;injection this with this;exact hx'.out this.symm
     simp[this]
   ·have hkn:k=n:=by omega
    subst hkn;go_wp2;go_ret;refine⟨ret_bool ?_,p,rfl⟩;have:=HE.out;rw[List.take_of_length_le (by rw[←HN.out];omega),List.take_of_length_le (by rw[←HN'.out];omega)] at this;simp[this]
 ·go_enter Tryz.func55,Tryz.ntmps55
  go_wp2;go_ret;refine⟨ret_bool ?_,0,rfl⟩;have:l≠m:=by rintro rfl;exact hnn (HN.out.trans HN'.out.symm)
  simp[this]
theorem quiet_add_left {P:Program}{f:FuncId}{args:Array Value}{w:World}{a n:Nat}{v:Value}
 (h:Calls P f args (w.drewN (a+n)) fun e w'=>e=.returned v∧w.drewN (a+n)=w') :
 Calls P f args (w.drewN (a+n)) fun e w''=>e=.returned v∧∃m,w''=w.drewN (a+m):=
 h.mono fun _ _ ⟨he,hm⟩=>⟨he,n,hm.symm⟩
theorem drew3 (w:World)(p q r:Nat): ∃k,((w.drewN p).drewN q).drewN r=w.drewN k:=⟨p+q+r,by rw[World.drewN_drewN,World.drewN_drewN,Nat.add_assoc]⟩
theorem isNaN_u32 (a:Int)(w:World): Calls Tryz.prog 269 #[.int .u32 a] w fun e w'=>e=.returned (.bool false)∧w=w':=by
 go_enter Tryz.func269,Tryz.ntmps269
 go_wp2;go_ret;exact⟨ret_bool (by simp),rfl⟩
theorem isNaN_int (a:Int)(w:World): Calls Tryz.prog 260 #[.int .i64 a] w fun e w'=>e=.returned (.bool false)∧w=w':=by
 go_enter Tryz.func260,Tryz.ntmps260
 go_wp2;go_ret;exact⟨ret_bool (by simp),rfl⟩
theorem cmp_u32 (a b:Nat)(w:World): Calls Tryz.prog 262 #[.int .u32 (a:Int),.int .u32 (b:Int)] w fun e w'=>e=.returned (.int .i64 (M.cmp a b))∧w=w':=by
 go_enter Tryz.func262,Tryz.ntmps262
 go_wp2_with (go_at_call 269;refine(isNaN_u32 _ _).mono ?_;rintro e w' ⟨rfl,rfl⟩)
 ·go_ret;exact⟨ret_int (M.cmp_lt (by assumption)).symm,rfl⟩
 ·go_ret;exact⟨ret_int (M.cmp_gt (by assumption)).symm,rfl⟩
 ·go_ret;exact⟨ret_int (M.cmp_zero.2 (by omega)).symm,rfl⟩
theorem cmp_int (a b:Nat)(w:World): Calls Tryz.prog 249 #[.int .i64 (a:Int),.int .i64 (b:Int)] w fun e w'=>e=.returned (.int .i64 (M.cmp a b))∧w=w':=by
 go_enter Tryz.func249,Tryz.ntmps249
 go_wp2_with (go_at_call 260;refine(isNaN_int _ _).mono ?_;rintro e w' ⟨rfl,rfl⟩)
 ·go_ret;exact⟨ret_int (M.cmp_lt (by assumption)).symm,rfl⟩
 ·go_ret;exact⟨ret_int (M.cmp_gt (by assumption)).symm,rfl⟩
 ·go_ret;exact⟨ret_int (M.cmp_zero.2 (by omega)).symm,rfl⟩
theorem compare_any (w:World)(u v:Value)(l m:List Nat){C D:Nat}(hu:Num w C u l)(hv:Num w D v m)(hl:Hid (M.isNat l=true))(hm:Hid (M.isNat m=true)):
 Calls Tryz.prog 251 #[u,v] w fun e w'=>e=.returned (.int .i64 (M.cmp (M.val l) (M.val m)))∧∃k,w'=w.drewN k:=by
 obtain⟨A,n,c,rfl,hn,hc,hm0,hs,hr⟩:=hu;obtain⟨A',n',c',rfl,hn',hc',hm',hs',hr'⟩:=hv;have hb:n≤9223372036854775807:=by unfold maxLen at hm0;omega
 have hb':n'≤9223372036854775807:=by unfold maxLen at hm';omega
 have HR:=hid hr;have HR':=hid hr';have HN:=hid hn;have HN':=hid hn';clear hr hn hs hm0 hr' hn' hs' hm' hc hc'
 by_cases hnn:n=n'
 ·subst hnn;go_enter Tryz.func251,Tryz.ntmps251
  go_wp2;go_loopw[5] (fun i wr=>∃(k p:Nat) (z:Int),k≤n∧z=(k:Int)-1∧i=.int .i64 z∧wr=w.drewN p∧l.drop k=m.drop k) (fun i _=>(intOf i+1).toNat)
  case atStart=>exact⟨n,0,_,Nat.le_refl _,rfl,rfl,rfl,by rw[List.drop_eq_nil_of_le (by rw[←HN.out];exact Nat.le_refl _),List.drop_eq_nil_of_le (by rw[←HN'.out];exact Nat.le_refl _)]⟩
  case round=>
   obtain⟨k,p,z,hk,hz,rfl,rfl,he⟩:=hrel;have HE:=hid he;clear he;rcases k with _|k
   ·obtain rfl:z=-1:=by omega
    clear hz;go_wp2;go_ret;refine⟨ret_int (M.cmp_zero.2 ?_).symm,p,rfl⟩;have:=HE.out;simp only[List.drop_zero] at this;rw[this]
   ·obtain rfl:z=(k:Int):=by omega
    clear hz;have hlt:k<n:=by omega
    obtain⟨ad,x,rfl,_,HX,hcell⟩:=HR.out.get (k:=k) (by rw[←HN.out];exact hlt);obtain⟨ad',x',rfl,_,HX',hcell'⟩:=HR'.out.get (k:=k) (by rw[←HN'.out];exact hlt)
    by_cases hx:x=x'
    ·subst hx;go_wp2;go_quiet (fail)
     go_wp2;go_roundw
     case rel=>exact⟨k,p+nq,_,by omega,rfl,rfl,rfl,M.drop_same HX.out HX'.out HE.out⟩
     case measure=>simp[intOf];all_goals omega
    ·have hx':=hid hx;have hne:((x:Int) != (x':Int))=true:=by simpa using (by omega:¬(x:Int)=x')
     clear hx;go_wp2;go_quiet (fail)
     go_wp2;go_quiet ((go_at_call 262;exact quiet_add_left (cmp_u32 _ _ _)))
     go_wp2;go_ret;refine⟨ret_int (M.cmp_at (M.isNat_iff.1 hl.out).1 (M.isNat_iff.1 hm.out).1 HX.out HX'.out HE.out hx'.out),drew3 _ _ _ _⟩
 ·go_enter Tryz.func251,Tryz.ntmps251
  go_wp2_with (go_at_call 249;refine(cmp_int _ _ _).mono ?_;rintro e w' ⟨rfl,rfl⟩)
  all_goals go_ret
  all_goals exact⟨ret_int (by have h:=M.cmp_len hl.out hm.out;rw[←HN.out,←HN'.out] at h;exact h hnn),0,rfl⟩
theorem natCmp_any (w:World)(u v:Value)(l m:List Nat){C D:Nat}(hu:Num w C u l)(hv:Num w D v m):
 Calls Tryz.prog 241 #[u,v] w fun e w'=>e=.returned (.int .i64 (M.cmp (M.nv l) (M.nv m)))∧Below w.heap.size w w':=by
 have HU:=hid hu;have HV:=hid hv;clear hu hv;go_enter Tryz.func241,Tryz.ntmps241
 go_wp2_with fail
 refine(natural_any w u l HU.out).mono ?_;rintro e w' ⟨⟨u',rfl,hu'⟩,rfl⟩;have HU':=hid hu';clear hu';go_wp2_with fail
 refine(natural_any w v m HV.out).mono ?_;rintro e w' ⟨⟨v',rfl,hv'⟩,rfl⟩;have HV':=hid hv';clear hv';go_wp2_with fail
 refine(compare_any w u' v' _ _ HU'.out HV'.out (M.isNat_nat l) (M.isNat_nat m)).mono ?_;rintro e w' ⟨rfl,k,rfl⟩;go_wp2;go_ret;exact⟨ret_int (by rw[M.val_nat,M.val_nat]),below_drewN (Below.refl _ _) _⟩
def Many (w:World)(C g:Nat)(ls:List (List Nat)): Prop:=g<C∧∀(j:Nat) l,ls[j]?=some l→∃v,w.cell? ⟨g,j,none⟩=some v∧Num w C v l
theorem Many.keep {w w':World}{C g:Nat}{ls:List (List Nat)}(h:Many w C g ls)(hb:Below C w w'): Many w' C g ls:=
 ⟨h.1,fun j l hl=>by
  obtain⟨v,h1,h2⟩:=h.2 j l hl;exact⟨v,by rw[hb.cell (p:=⟨g,j,none⟩) h.1];exact h1,h2.keep hb (Nat.le_refl _)⟩⟩
theorem Many.get {w:World}{C g:Nat}{ls:List (List Nat)}(h:Many w C g ls){j:Nat}(hj:j<ls.length):
 ∃l A n c,Hid (ls[j]?=some l)∧w.cell? ⟨g,j,none⟩=some (.slice A n c)∧Hid (n=l.length)∧Hid (n≤maxLen)∧Hid (∀x∈l,x<4294967296)∧Hid (Row w C A l):=by
 obtain⟨v,h1,A,n,c,rfl,hn,hc,hm,hs,hr⟩:=h.2 j _ (List.getElem?_eq_getElem hj);exact⟨_,A,n,c,List.getElem?_eq_getElem hj,h1,hn,by unfold Hid;omega,hs,hr⟩
set_option linter.unusedSimpArgs false
set_option linter.unusedVariables false
open Go.RowKit
def Ext (w w':World): Prop:=Below w.heap.size w w'
theorem Ext.refl (w:World): Ext w w:=Below.refl _ _
theorem Ext.trans {a b c:World}(h:Ext a b)(k:Ext b c): Ext a c:=Below.trans (B:=a.heap.size) h (Below.mono k h.size)
theorem Ext.below {a b:World}(h:Ext a b): Below a.heap.size a b:=h
theorem Ext.alloc (w:World)(o:Obj): Ext w (w.alloc o):=(Below.refl _ _).alloc (Nat.le_refl _) o
theorem Num.up {w w':World}{v:Value}{l:List Nat}(h:Num w w.heap.size v l)(e:Ext w w'): Num w' w'.heap.size v l:=h.keep e e.size
def IsN (w:World)(v:Value)(N k:Nat): Prop:=Num w w.heap.size v (M.limbs N)∧(M.limbs N).length≤k
theorem IsN.up {w w':World}{v:Value}{N k:Nat}(h:IsN w v N k)(e:Ext w w'): IsN w' v N k:=⟨h.1.up e,h.2⟩
theorem IsN.len {w:World}{v:Value}{N k:Nat}(h:IsN w v N k): N<1000000000^k:=Nat.lt_of_lt_of_le (M.limbs_len_lt N) (Nat.pow_le_pow_right (by omega) h.2)
theorem IsN.of {w:World}{v:Value}{l:List Nat}{k:Nat}(h:Num w w.heap.size v l)(hl:M.isNat l=true)(hk:l.length≤k): IsN w v (M.nv l) k:=by
 have e:M.limbs (M.nv l)=l:=by rw[M.limbs_nv,M.nat,if_pos hl]
 exact⟨by rw[e];exact h,by rw[e];exact hk⟩
def GivesN (w:World)(N k:Nat)(e:Ending)(w':World): Prop:=∃v,e=.returned v∧IsN w' v N k∧Ext w w'
theorem of_n (n:Nat)(hn:(n:Int)≤18446744073709551615)(w:World): Calls Tryz.prog 72 #[.int .u64 (n:Int)] w (GivesN w n 3):=
 (of_any n hn w).mono fun _ _ ⟨v,he,hv,hb⟩=>⟨v,he,⟨hv,limbs_len3 (by omega)⟩,hb⟩
theorem cmp_n {w:World}{u v:Value}{a b j k:Nat}(hu:IsN w u a j)(hv:IsN w v b k){z:Int}(hz:M.cmp a b=z):
 Calls Tryz.prog 241 #[u,v] w fun e w'=>e=.returned (.int .i64 z)∧Ext w w':=by
 have h:=natCmp_any w u v _ _ hu.1 hv.1;rw[M.nv_limbs,M.nv_limbs,hz] at h;exact h
theorem isNat_l {w:World}{v:Value}{l:List Nat}(hv:Num w w.heap.size v l){b:Bool}(hb:M.isNat l=b):
 Calls Tryz.prog 107 #[v] w fun e w'=>e=.returned (.bool b)∧w=w':=by
 have h:=is_any w v _ hv;rw[hb] at h;exact h
set_option maxRecDepth 100000 in
theorem wpList_appN {w:World}{ops:Array Oper}{rest:List Oper}{o:Oper}{a:Act}{Q:Exit→Act→World→Prop}(hgd:o.guard=none)(s x:Operand)
 (ho:o.op=.call { callee:=.builtin .append,args:=#[s,x],argTypes:=#[22,22] })
 (base:Nat) (v:Value) (l:List Nat) (hs:a.eval s=v) (hown:Own base w v l) (u:Value) (m:List Nat) (hx:a.eval x=u) {C:Nat} (hu:Num w C u m) (hlen:l.length+m.length≤1000000000) (hbase:base≤w.heap.size)
 (h:∀v' w',Own base w' v' (l++m)→w.grownBy w' v.ownBlock→wpList Tryz.prog ops Q rest (a.put o.dst v') w'):wpList Tryz.prog ops Q (o::rest) a w:=by
 obtain⟨i0,hi,hz0,hz1,hz2⟩:=info_parts info_u32;obtain⟨A,n,c,rfl,hn,hc,hm,hsm,hr⟩:=hu;rcases A with _|ad
 ·have hl:m=[]:=by
   rcases m with _|⟨y,r⟩
   ·rfl
   ·obtain⟨ad,e,_⟩:=hr (by simp);cases e
  subst hl;have hn0:n=0:=hn;subst hn0;have hrun:(Builtin.append_ #[22,22] o.type #[v,.slice none 0 c]).run Tryz.prog w=.ok v w:=by
   rcases hown.1.2 with⟨rfl,_⟩|⟨g,cap,cur,rfl,_,_,hnc,_⟩
   ·simp[Builtin.append_,run_underlying Tryz.underlying22,sizeOf,typeInfo,hi,Builtin.lenOf,Builtin.firstCells]
   ·simp[Builtin.append_,run_underlying Tryz.underlying22,sizeOf,typeInfo,hi,Builtin.lenOf,Builtin.firstCells,hnc,storeCells]
  refine wpList_plain hgd fun K hK=>?_;unfold Oper.wp execOp;simp only[ho,resolve,invoke,builtin,Sem.run_bind,Sem.run_pure,Result.andThen_ok,List.map_toArray,List.map_cons,List.map_nil,hs,hx,hrun];exact hK _ _ (h v w (by simpa using hown) (World.grownBy.refl w _))
 ·refine wpList_append_own w hgd s x 22 ho base 114 i0 (.int .u32 0) 1 4 Tryz.underlying22 hi hz0 hz1 hz2 rfl (by decide) v l.length _ hs hown.1 ad n c (m.map fun x:Nat=>Value.int .u32 (x:Int)) hx (by simp[hn]) ?_ ?_ (by unfold maxLen;omega) (by omega) hbase ?_
  ·intro j u hj;rw[List.getElem?_map] at hj;obtain⟨y,hy,rfl⟩:=Option.map_eq_some_iff.1 hj;obtain⟨ad',e,_,hcell⟩:=hr (by rintro rfl;simp at hy);injection e with e;subst e;exact hcell j y hy
  ·intro u hu;obtain⟨y,_,rfl⟩:=List.mem_map.1 hu;rfl
  ·intro v' w' h1 h2 _;refine h v' w' ⟨?_,fun t ht=>?_⟩ h2
   ·rw[hn] at h1;simpa using h1
   ·rw[List.mem_append] at ht;rcases ht with ht|ht
    ·exact hown.2 t ht
    ·exact hsm t ht
theorem Own.one (w:World)(x:Nat)(hx:x<4294967296): Own w.heap.size (w.alloc (.cells #[.int .u32 (x:Int)] 114)) (.slice (some ⟨w.heap.size,0,none⟩) 1 1) [x]:=
 ⟨⟨rfl,.inr ⟨w.heap.size,1,_,rfl,Nat.le_refl _,heap_alloc_new w _,Nat.le_refl _,by unfold maxLen;omega,rfl,rfl⟩⟩,by simpa using hx⟩
theorem Own.none_ (w:World): Own w.heap.size (w.alloc (.cells #[] 114)) (.slice (some ⟨w.heap.size,0,none⟩) 0 0) []:=
 ⟨⟨rfl,.inr ⟨w.heap.size,0,_,rfl,Nat.le_refl _,heap_alloc_new w _,Nat.le_refl _,by unfold maxLen;omega,rfl,rfl⟩⟩,by simp⟩
end Go.Proofs.YtoenjbkmiphhoaaGreatDoor
