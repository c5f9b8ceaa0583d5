/-
  Contract of slices.Backward over a row of limbs: the iterator, for every body that keeps the row and the box of the slice.
-/
import Derived.RangeFuncNested
import Derived.RangeFuncBound
import Derived.RangeFuncCalls
import Derived.RangeFuncLeaves
import Derived.RangeFuncBox
import Derived.Shelf.Abstract
import Derived.Shelf.RegionOpen
import Derived.WalkKit
import Derived.OwnWalkIn
import Derived.TacticsInMore
import Derived.LoopNIn
import Derived.LoopIn
import Derived.Lib.ItoaNum
import Derived.Lib.ItoaLen
import Derived.Lib.ItoaMem
import Derived.Lib.Walk
import Derived.BigCall
import Derived.BigGuard
import Derived.Lib.AppendIntMem
import Derived.Maps.AppendAt
import Derived.Test.YtoenjbkmiphhoaaGreatDoorA06
import Derived.Test.YtoenjbkmiphhoaaGreatDoorA08
namespace Go.Proofs.YtoenjbkmiphhoaaGreatDoor
set_option linter.unusedSimpArgs false
set_option linter.unusedVariables false
open Go.RowKit Go.Shelf
attribute [local go_sem] Oper.semAt_some
abbrev U32:={ x:Nat // x<4294967296 }
def BackK (Bs n₀:Nat)(W W':World): Prop:=Below n₀ W W'∧W'.heap[Bs]?=W.heap[Bs]?
theorem BackK.refl (Bs n₀:Nat)(W:World): BackK Bs n₀ W W:=⟨Below.refl _ _,rfl⟩
theorem BackK.trans {Bs n₀:Nat}{A B C:World}(h:BackK Bs n₀ A B)(k:BackK Bs n₀ B C): BackK Bs n₀ A C:=⟨h.1.trans k.1,k.2.trans h.2⟩
theorem backK_b {Bs n₀:Nat}{w:World}(hn:n₀≤w.heap.size)(hB:Bs<w.heap.size)(W:World)(l:Nat)(o o':Obj)(hl:w.heap.size≤l)(h:W.heap[l]?=some o)(h1:o.isCells=false)(h2:o.isWalk=false): BackK Bs n₀ W (W.putObj l o'):=
 ⟨belowK_b hn W l o o' hl h h1 h2,World.putObj_heap_other (by omega)⟩
theorem BackK.cell {Bs n₀ o:Nat}{W W':World}(h:BackK Bs n₀ W W'): W'.cell? ⟨Bs,o,none⟩=W.cell? ⟨Bs,o,none⟩:=World.cell?_of_block h.2
theorem seen_step {zs:List Nat}{k x:Nat}(h:zs[k]?=some x){pre:List (Nat×U32)}(hp:pre.map (fun y=>y.2.1)=(zs.drop (k+1)).reverse)(hx:x<4294967296):
 (pre++[(k,(⟨x,hx⟩:U32))]).map (fun y=>y.2.1)=(zs.drop k).reverse:=by
 rw[M.drop_at h,List.reverse_cons,List.map_append,hp];rfl
set_option maxRecDepth 100000 in
set_option maxHeartbeats 2000000 in
theorem back1_in (F:Fence)(n:Nat)(hf:F.fn 143)(hro:F.round=none)(hn:1≤n)(l Bs n₀:Nat)(A:Option Addr)(len c:Nat)(zs:List Nat)(hlen:len=zs.length)(hle:len≤1000000000)
 (hsm:Hid (∀x∈zs,x<4294967296)) (J Jx:List (Nat×U32)→World→Prop)
 (hY:∀pre x W,J pre W→pre.length<len→YieldAt F (n-1) Tryz.prog l #[.int .i64 (x.1:Int),.int .u32 (x.2.1:Int)] W fun e W'=>
  (e=.returned (.bool true)∧J (pre++[x]) W'∧BackK Bs n₀ W W')∨(e=.returned (.bool false)∧Jx (pre++[x]) W'))
 (W:World) (hBs:W.cell? ⟨Bs,0,none⟩=some (.slice A len c)) (hrow:Row W n₀ A zs) (h0:J [] W) :
 CallsIn F n Tryz.prog 143 #[.func (.yield l) #[] #[],.pointer (some ⟨Bs,0,none⟩)] W fun e W'=>(∃v,e=.returned v) ∧
  ((∃ys:List (Nat×U32),ys.map (fun y=>y.2.1)=zs.reverse∧J ys W')∨(∃pre,True∧Jx pre W')):=by
 have HLEN:=hid hlen;clear hlen;refine callsIn_of_wp Tryz.func143 rfl hf ?_ hro;simp only[Tryz.ntmps143,List.size_toArray,List.length_cons,List.length_nil,Nat.reduceAdd,Nat.reduceSub,Array.replicate_succ,Array.replicate_zero,List.push_toArray,List.append_toArray,List.nil_append,List.cons_append]
 gi_wp2
 gi_loopw [3] (fun i wr=>∃(k:Nat) (z:Int) (pre:List (Nat×U32)),k≤len∧z=(k:Int)-1∧i=.int .i64 z∧J pre wr∧pre.map (fun y=>y.2.1)=(zs.drop k).reverse∧BackK Bs n₀ W wr)
  (fun i _=>(intOf i+1).toNat)
 case atStart=>exact⟨len,_,[],Nat.le_refl _,rfl,rfl,h0,by rw[HLEN.out,List.drop_length];rfl,BackK.refl _ _ _⟩
 case round=>
  obtain⟨k,z,pre,hk,hz,rfl,hJs,hpre,hnx⟩:=hrel;have hcb:=hnx.cell.trans hBs;rcases k with _|k
  ·obtain rfl:z=-1:=by omega
   clear hz
   gi_wp2
   go_end0
   exact⟨⟨_,rfl⟩,.inl ⟨pre,by rw[hpre,List.drop_zero],hJs⟩⟩
  ·obtain rfl:z=(k:Int):=by omega
   clear hz;have hlt:k<zs.length:=by have:=HLEN.out;omega
   obtain⟨ad,x,rfl,_,HX,hcell⟩:=(hrow.keep hnx.1 (Nat.le_refl _)).get (k:=k) hlt;have hx:=hsm.out x (List.mem_of_getElem? HX.out);have hpl:pre.length<len:=by
    have:=congrArg List.length hpre;have h2:=HLEN.out;simp at this;omega
   obtain⟨fn,tmps,assign,body,hy,hR⟩:=hY pre (k,⟨x,hx⟩) wr hJs hpl
   dsimp only at hy
   have hk0:(0:Int)≤(k:Int):=by omega
   have hk1:(k:Int)<(len:Int):=by omega
   gi_wp2
   refine hR.mono ?_;rintro e W3 (⟨rfl,hJ3,hk3⟩|⟨rfl,hJx3⟩)
   ·gi_wp2
    go_roundw
    case rel=>exact⟨k,_,_,by omega,rfl,by go_num,hJ3,seen_step HX.out hpre hx,hnx.trans hk3⟩
    case measure=>simp[intOf];all_goals omega
   ·gi_wp2
    refine bodyPost_ret (results_none rfl _ _ _) rfl ?_;exact⟨⟨_,rfl⟩,.inr ⟨_,trivial,hJx3⟩⟩
set_option maxHeartbeats 1000000 in
theorem back_n (a:Option Addr)(len cap:Nat)(w:World):
 Calls Tryz.prog 109 #[.slice a len cap] w fun e w'=>e=.returned (.func (.func 143) #[] #[.pointer (some ⟨w.heap.size,0,none⟩)])∧w'=w.alloc (.cells #[.slice a len cap] 22):=by
 go_enter Tryz.func109,Tryz.ntmps109
 go_wp2;go_ret;exact⟨rfl,rfl⟩
theorem back_stops (F:Fence)(n:Nat)(hf:F.fn 143)(hro:F.round=none)(hn:1≤n)(Bs n₀:Nat)(A:Option Addr)(len c:Nat)(zs:List Nat)(hlen:len=zs.length)(hle:len≤1000000000)(hsm:Hid (∀x∈zs,x<4294967296))
 (w:World) (hBs:Bs<w.heap.size) (hn₀:n₀≤w.heap.size) (hc:w.cell? ⟨Bs,0,none⟩=some (.slice A len c)) (hrow:Row w n₀ A zs) :
 SeqStopsK F n Tryz.prog 143 #[.pointer (some ⟨Bs,0,none⟩)] (fun x:Nat×U32=>#[Value.int .i64 (x.1:Int),Value.int .u32 (x.2.1:Int)]) (BackK Bs n₀) (fun ys=>ys.map (fun y=>y.2.1)=zs.reverse) (fun _=>True) zs.length w:=fun l J Jx W hW _ _ hY h0=>by
 have hc':=(hW.cell (p:=⟨Bs,0,none⟩) hBs).trans hc;have:=back1_in F n hf hro hn l Bs n₀ A len c zs hlen hle hsm J Jx (by rw[hlen];exact hY) W hc' (hrow.keep (hW.mono hn₀) (Nat.le_refl _)) h0;exact this
namespace M
open Go.Lib (decDigits nDigits)
def pad:Nat→Nat→List UInt8
 | 0,_=>[]
 | k+1,x=>pad k (x/10)++[UInt8.ofNat (48+x%10)]
theorem dec_small {u:Nat}(h:u<10): decDigits u=[UInt8.ofNat (48+u)]:=by rw[decDigits,dif_pos h]
theorem dec_big {u:Nat}(h:¬u<10): decDigits u=decDigits (u/10)++[UInt8.ofNat (48+u%10)]:=by rw[decDigits,dif_neg h]
theorem dec_pad:∀(k a b:Nat),0<a→b<10^k→decDigits (a*10^k+b)=decDigits a++pad k b
 | 0,a,b,_,hb=>by
  have:b=0:=by simpa using hb
  subst this;simp[pad]
 | k+1,a,b,ha,hb=>by
  have hp:1≤10^k:=Nat.one_le_pow _ _ (by decide);rw[Nat.pow_succ] at hb ⊢;have e:a*(10^k*10)=(a*10^k)*10:=by rw[Nat.mul_assoc]
  have h1:1≤a*10^k:=Nat.mul_pos ha hp;rw[e,dec_big (by omega),show (a*10^k*10+b)/10=a*10^k+b/10 by omega,dec_pad k a (b/10) ha (by omega),show (a*10^k*10+b)%10=b%10 by omega,pad,List.append_assoc]
def nine (x:Nat): List UInt8:=(decDigits (1000000000+x)).drop 1
theorem nine_pad {x:Nat}(h:x<1000000000): nine x=pad 9 x:=by
 unfold nine;have:=dec_pad 9 1 x (by decide) (by omega);rw[show 1*10^9+x=1000000000+x by omega,dec_small (u:=1) (by decide)] at this;rw[this];rfl
def pieces (l:List Nat): List (List UInt8):=match l.getLast? with|none=>[]|some x=>decDigits x::l.dropLast.reverse.map nine
theorem dec_snoc {x N:Nat}(hx:x<1000000000)(hN:0<N): decDigits (x+1000000000*N)=decDigits N++nine x:=by
 rw[nine_pad hx,←dec_pad 9 N x hN (by omega)];congr 1;omega
theorem dec_pieces:∀{l:List Nat},small l=true→l.getLast?≠some 0→l≠[]→(pieces l).flatten=decDigits (val l)
 | [],_,_,h=>absurd rfl h
 | [x],hs,hl,_=>by simp[pieces,val]
 | x::y::r,hs,hl,_=>by
  rw[small_cons] at hs;rw[last_cons (by simp)] at hl;have ih:=dec_pieces hs.2 hl (by simp);have hp:0<val (y::r):=val_pos (by simp) hl;rw[val,dec_snoc hs.1 hp,←ih];unfold pieces;rw[last_cons (by simp)];cases hg:(y::r).getLast? with
  | none=>simp at hg
  | some z=>simp[List.dropLast_cons_of_ne_nil]
theorem dec_length (u:Nat): (decDigits u).length=nDigits u:=Go.Lib.decDigits_length u
theorem nDigits_le {u k:Nat}(hk:1≤k)(h:u<10^k): nDigits u≤k:=by
 rcases Nat.lt_or_ge k (nDigits u) with hlt|hge
 ·exfalso;obtain⟨j,hj⟩:∃j,nDigits u=j+1:=⟨nDigits u-1,by omega⟩;have hlow:∀(j u:Nat),nDigits u=j+1→0<j→10^j≤u:=by
   intro j
   induction j with
   | zero=>intro u _ h;omega
   | succ j ih=>
    intro u h _
    by_cases hu:u<10
    ·rw[Go.Lib.nDigits_small hu] at h;omega
    ·rw[Go.Lib.nDigits_big hu] at h;rcases Nat.eq_zero_or_pos j with hj|hj
     ·subst hj;omega
     ·have:=ih (u/10) (by omega) hj;rw[Nat.pow_succ];omega
  have h1:=hlow j u hj (by omega);have h2:=Nat.pow_le_pow_right (show 0<10 by decide) (show k≤j by omega);omega
 ·exact hge
end M
open Go.RowKit Go.Sort
def Tab (w:World): Prop:=Lib.TabIs Tryz.prog w "internal/strconv.uint64pow10" .u64 Lib.pow10Tab
theorem Tab.up {w w':World}(h:Tab w)(e:Ext w w'): Tab w':=Lib.tabBelow_of_tabIs h w' e
abbrev str (l:List UInt8): Value:=.string ⟨l.toArray⟩
def GivesT (w:World)(l:List UInt8)(e:Ending)(w':World): Prop:=e=.returned (str l)∧Ext w w'
theorem ext_str (l:List UInt8)(a b:Nat): (⟨l.toArray⟩:ByteArray).extract a b=⟨((l.drop a).take (b-a)).toArray⟩:=by rw[Lib.extract_eq]
theorem ext_drop (l:List UInt8)(a:Nat): (⟨l.toArray⟩:ByteArray).extract a l.length=⟨(l.drop a).toArray⟩:=by
 rw[ext_str,List.take_of_length_le (by simp)]
theorem zeros_at0 (w:World)(T:TypeId)(nd:Nat)(hs:nd≤24): Holds (fun (b:UInt8)=>Value.int .u8 (b.toNat:Int)) (w.alloc (.cells Lib.zeros24 T)) w.heap.size 0 (Array.replicate nd (0:UInt8)):=fun j hj=>by
 have hj':j<nd:=by simpa using hj
 refine⟨?_,World.frozen?_alloc_new _ _ _ _⟩;rw[World.cell?_alloc_new,Lib.zeros24_at _ (by omega),getElem!_pos _ j hj];simp
theorem ext_grow {w:World}(k:Nat)(os:Array Obj): Ext w (grow (w.drewN k) os):=by
 refine⟨rfl,rfl,rfl,by simp[grow],fun j hj=>?_⟩;show (w.heap++os)[j]?=w.heap[j]?;exact Array.getElem?_append_left hj
theorem fin_at0 (w:World)(o:Obj)(dk:Array UInt8)(k:Nat): ∃os,(putRow (fun (b:UInt8)=>Value.int .u8 (b.toNat:Int)) (w.alloc o) w.heap.size 0 dk).drewN k=grow (w.drewN k) os:=by
 rw[alloc_eq_grow];obtain⟨os',_,e⟩:=putRow_grow_new (fun (b:UInt8)=>Value.int .u8 (b.toNat:Int)) w #[o] w.heap.size 0 dk (Nat.le_refl _);exact⟨os',by rw[e];rfl⟩
set_option maxHeartbeats 4000000 in
set_option maxRecDepth 100000 in
theorem fmtIn_n (u:Nat)(hu64:u<18446744073709551616)(w:World)(ht:Tab w):
 Calls Tryz.prog 142 #[.int .u64 (u:Int),.int .i64 10] w (GivesT w (Lib.decDigits u)):=by
 by_cases hs:u<100
 ·have hs':(u:Int)<100:=by omega
  have hw:IntKind.i64.wrap (u:Int)=(u:Int):=by rw[IntKind.wrap_i64];omega
  go_enter Tryz.func142,Tryz.ntmps142
  go_wp2_with (go_at_call 179;refine(Tryz.internal_strconv_small u hs _).mono ?_;rintro e w' ⟨rfl,rfl⟩)
  go_ret;exact⟨rfl,Ext.refl _⟩
 ·have hs':decide ((u:Int)<100)=false:=by simp;omega
  have hu1:1≤u:=by omega
  have hnd20:Lib.nDigits u≤20:=Lib.nDigits_le20 u hu64;have hb3:Lib.nDigits u≤24:=by omega
  have hal:Tryz.prog.arrayLen 202=24:=by kernel_rfl
  have hsl1:∀W,(Instr.sliceAt 202 (.pointer (some ⟨w.heap.size,0,none⟩)) none (some (.int .i64 (Lib.nDigits u:Int))) none).run Tryz.prog W=.ok (.slice (some ⟨w.heap.size,0,none⟩) (Lib.nDigits u) 24) W:=fun W=>by
   rw[run_sliceAt_array_h W 202 ⟨w.heap.size,0,none⟩ (by kernel_rfl) .i64 (Lib.nDigits u:Int) (by omega) (by rw[hal];omega)];go_simp
   try omega
  have hH0:=zeros_at0 w 202 (Lib.nDigits u) (by omega);have hfmt:=Tryz.internal_strconv_formatBase10 w.heap.size 0 24 u (Array.replicate (Lib.nDigits u) 0) (w.alloc (.cells Lib.zeros24 202)) hH0 (by rw[Array.size_replicate];exact Lib.lt_pow_nDigits u) hu64 (by rw[Array.size_replicate];omega);rw[Array.size_replicate] at hfmt;have HH0:=Lib.hid hH0;clear hH0 hal;go_enter Tryz.func142,Tryz.ntmps142
  go_wp2_with (go_at_call 180;refine(Tryz.internal_strconv_numDigits u hu1 hu64 _ (Lib.tabIs_alloc ht _)).mono ?_;rintro e w' ⟨rfl,rfl⟩)
  go_at_call 181
  refine hfmt.mono ?_;rintro e w' ⟨rfl,k,v',dk,rfl,hF⟩;have hcv:(convert 143 9 (.slice (some ⟨w.heap.size,0,none⟩) (Lib.nDigits u) 24)).run Tryz.prog ((putRow (fun (b:UInt8)=>Value.int .u8 (b.toNat:Int)) (w.alloc (.cells Lib.zeros24 202)) w.heap.size 0 dk).drewN k)=.ok (.string ⟨(Lib.decDigits u).toArray⟩) ((putRow (fun (b:UInt8)=>Value.int .u8 (b.toNat:Int)) (w.alloc (.cells Lib.zeros24 202)) w.heap.size 0 dk).drewN k):=by
   have h:=run_convert_bytes_back (P:=Tryz.prog) ((putRow (fun (b:UInt8)=>Value.int .u8 (b.toNat:Int)) (w.alloc (.cells Lib.zeros24 202)) w.heap.size 0 dk).drewN k) 143 9 5 ⟨w.heap.size,0,none⟩ 24 (Lib.decDigits u) Tryz.underlying143 Tryz.underlying5 Tryz.underlying9 (fun j hj=>by
    rw[Lib.row_is_numeral hF j hj,Lib.add_plain,World.cell?_drewN];exact cell?_putRow (fun (b:UInt8)=>Value.int .u8 (b.toNat:Int)) _ w.heap.size 0 _ dk HH0.out (by rw[hF.size,Array.size_replicate]) j (by rw[hF.size];rw[Lib.decDigits_length] at hj;exact hj))
   rw[Lib.decDigits_length] at h;exact h
  go_wp2;go_ret;obtain⟨os,eo⟩:=fin_at0 w (.cells Lib.zeros24 202) dk k;exact⟨rfl,by rw[eo];exact ext_grow k os⟩
theorem fmt_n (u:Nat)(hu64:u<18446744073709551616)(w:World)(ht:Tab w):
 Calls Tryz.prog 108 #[.int .u64 (u:Int),.int .i64 10] w (GivesT w (Lib.decDigits u)):=by
 go_enter Tryz.func108,Tryz.ntmps108
 go_wp2_with (go_at_call 142;refine(fmtIn_n u hu64 _ ht).mono ?_;rintro e w' ⟨rfl,hb⟩)
 go_ret;exact⟨rfl,hb⟩
theorem nine_n (x:Nat)(hx:x<4294967296)(w:World)(ht:Tab w):
 Calls Tryz.prog 110 #[.int .u32 (x:Int)] w (GivesT w (M.nine x)):=by
 have hw:IntKind.u64.wrap (x:Int)=(x:Int):=by rw[IntKind.wrap_u64];omega
 have hw2:IntKind.u64.wrap (1000000000+(x:Int))=((1000000000+x:Nat):Int):=by rw[IntKind.wrap_u64];omega
 have hlen:1≤(Lib.decDigits (1000000000+x)).length:=by rw[Lib.decDigits_length];exact Lib.nDigits_pos _
 have hlen2:(Lib.decDigits (1000000000+x)).length≤20:=by rw[Lib.decDigits_length];exact Lib.nDigits_le20 _ (by omega)
 go_enter Tryz.func110,Tryz.ntmps110
 go_wp2_with (go_at_call 108;refine(fmt_n (1000000000+x) (by omega) _ ht).mono ?_;rintro e w' ⟨rfl,hb⟩)
 go_ret;refine⟨?_,hb⟩;rw[ext_drop];rfl
attribute [local go_sem] Oper.semAt_some
theorem own_low {w:World}{B k j:Nat}{e:TypeId}{size:Nat}{v:Value}{xs:List Value}(h:w.ownsRow B e size v k xs)(he:v.ownBlock=some j): B≤j:=by
 rcases h.2 with⟨rfl,_⟩|⟨g,cap,cur,rfl,hb,_,_⟩
 ·simp[Value.ownBlock] at he
 ·obtain rfl:g=j:=by simpa [Value.ownBlock] using he
  exact hb
theorem Box.one {w:World}{g:Nat}{v:Value}{t:TypeId}(h:Box w g #[v] t): ∀(j:Nat) u,[v][j]?=some u→w.cell? ((⟨g,0,none⟩:Addr).add j)=some u:=by
 intro j u hj;rcases j with _|j
 ·simp at hj;subst hj;rw[Addr.add_lit];exact h.cell (o:=0) rfl
 ·simp at hj
theorem ownsRow_up {w w':World}{B k:Nat}{e:TypeId}{size:Nat}{v:Value}{xs:List Value}(h:w.ownsRow B e size v k xs)(hb:Ext w w'): w'.ownsRow B e size v k xs:=
 h.kept (row:=none) ⟨hb.os,hb.tape,hb.output,hb.size,fun k hk _=>hb.block k hk⟩ (by cases v.ownBlock<;>simp)
def OwnS (B:Nat)(w:World)(v:Value)(n:Nat)(xs:List Value): Prop:=w.ownsRow B 9 1 v n xs
theorem OwnS.up {B n:Nat}{w w':World}{v:Value}{xs:List Value}(h:OwnS B w v n xs)(hb:Ext w w'): OwnS B w' v n xs:=ownsRow_up h hb
theorem wp_at {P:Program}{code:Code}{Q:Exit→Act→World→Prop}{a:Act}{W:World}(X:World→Prop)(h:X W)(k:∀W,X W→code.wp P Q a W): code.wp P Q a W:=k W h
section
variable {P:Program} {ops:Array Oper} {Q:Exit→Act→World→Prop} {A:Nat→TypeId×Array Value} {B:Nat} {G:List Nat} {i:Nat} {r:List (Nat×Nat)} {a:Act} {w:World} {o:Oper} {d:Option Tmp}
theorem WE.appS (ho:ops[i]?=some o)(hd:o.dst=d)(hw:Region.wanted o (yielded ops a.tmps)=true)(s x:Operand)(t:TypeId)
 (hop:o.op=.call { callee:=.builtin .append,args:=#[s,x],argTypes:=#[t,t] })
 (base:Nat) (e:TypeId) (i0:TypeInfo) (z:Value) (bytes:Nat) (ht:P.underlying t=some (.slice e)) (hi:P.info? e=some i0) (hz:i0.zero=some z)
 (hsize:i0.size=1) (hby:i0.bytes=bytes) (hzs:z.cells.size=1)
 (v:Value) (n:Nat) (xs:List Value) (hs:a.eval s=v) (hown:w.ownsRow base e 1 v n xs)
 (ad:Addr) (m c:Nat) (news:List Value) (hx:a.eval x=.slice (some ad) m c) (hl:news.length=m*1) (hnews:∀j u,news[j]?=some u→w.cell? (ad.add j)=some u) (h1:∀u∈news,u.oneCell'=true)
 (h63:n+m≤maxLen) (hbytes:(n+m)*bytes≤140737488355328) (hbase:base≤w.heap.size)
 (h:∀v' w',w'.ownsRow base e 1 v' (n+m) (xs++news)→w.grownBy w' v.ownBlock→WE P ops Q A B r G (a.put d v') w'):WE P ops Q A B ((i,4)::r) G a w:=by
 subst hd;unfold WE wpOp;simp only[ho,hw,if_true];refine .inl ?_;exact wp_append_own w s x t hop base e i0 z 1 bytes ht hi hz hsize hby hzs (by decide) v n xs hs hown ad m c news hx hl hnews h1 h63 hbytes hbase fun v' w' h2 h3 _=>⟨h3.size,h v' w' h2 h3⟩
end
theorem Num.row {w:World}{C:Nat}{A:Option Addr}{n c:Nat}{l:List Nat}(h:Num w C (.slice A n c) l): Row w C A l∧n=l.length:=by
 obtain⟨A',n',c',e,hn,_,_,_,hr⟩:=h;injection e with e1 e2 e3;subst e1 e2;exact⟨hr,hn⟩
theorem pieces_of {l:List Nat}{h x:Nat}(hn:h+1=l.length)(hx:l[h]?=some x){ys:List (Nat×U32)}(hys:ys.map (fun y=>y.2.1)=(l.take h).reverse):
 (Lib.decDigits x::ys.map (fun y=>M.nine y.2.1))=M.pieces l:=by
 have e1:l.getLast?=some x:=by rw[List.getLast?_eq_getElem?,show l.length-1=h by omega];exact hx
 have e2:l.dropLast=l.take h:=by rw[List.dropLast_eq_take,show l.length-1=h by omega]
 unfold M.pieces;rw[e1,e2,←hys,List.map_map];rfl
theorem M.dec_room (l:List Nat): Go.Lib.nDigits (M.nv l)≤9*l.length+1:=by
 refine M.nDigits_le (by omega) ?_;have h:=M.nv_lt l;rw[show (1000000000:Nat)=10^9 by decide,←Nat.pow_mul] at h;exact Nat.lt_of_lt_of_le h (Nat.pow_le_pow_right (by decide) (by omega))
theorem own_room {W:World}{base k g c:Nat}{e:TypeId}{xs:List Value}(h:W.ownsRow base e 1 (.slice (some ⟨g,0,none⟩) k c) k xs): g<W.heap.size∧k≤c:=by
 rcases h.2 with⟨h1,_⟩|⟨g',cap,cur,h1,_,hg,hc,_⟩
 ·cases h1
 ·injection h1 with h1 h2 h3;injection h1 with h1;injection h1 with h1;subst h1 h3;exact⟨(Array.getElem?_eq_some_iff.1 hg).1,hc⟩
theorem wpIn_append_run {F:Fence}{n:Nat}{P:Program}{w:World}{o:Oper}{a:Act}{K:Act→World→Prop}{Q:Exit→Act→World→Prop}(s x:Operand)(t:TypeId)(hop:o.op=Op.call { callee:=Callee.builtin Builtin.append,args:=#[s,x],argTypes:=#[t,t] })
 (v:Value) (hs:a.eval s=v) (u:Value) (hx:a.eval x=u) {v':Value} {w':World} (hrun:(Builtin.append_ #[t,t] o.type #[v,u]).run P w=.ok v' w') (h:K (a.put o.dst v') w'):o.wpIn F n P a w K Q:=by
 unfold Oper.wpIn;refine⟨?_,?_⟩
 ·simp[Oper.about,hop,resolve,Target.leads,Sem.run_pure]
 ·rw[Oper.semAt_plain F _ _ (by rw[hop];intro c hc';cases hc')];simp[execOp,hop,resolve,invoke,builtin,hs,hx,hrun,Result.andThen];exact h
def noPanic (Q:Exit→Act→World→Prop): Exit→Act→World→Prop
 | .panic _,_,_=>False
 | e,a,w=>Q e a w
theorem noPanic_le {Q:Exit→Act→World→Prop}: ∀e a w,noPanic Q e a w→Q e a w
 | .panic _,_,_,h=>h.elim
 | .normal,_,_,h=>h
 | .ret,_,_,h=>h
 | .outgrown,_,_,h=>h
 | .exit _,_,_,h=>h
 | .goto _,_,_,h=>h
theorem join_flat:∀xs:List (List UInt8),Lib.join xs []=xs.flatten
 | []=>rfl
 | x::r=>by
  rw[Lib.join_cons];unfold Lib.joinTail;simp
theorem info_str:(Tryz.prog.info? 9).map (fun i=>(i.zero,i.size,i.bytes))=some (some (.string ⟨#[]⟩),1,16):=by kernel_rfl
theorem together_n {w:World}(bk o c:Nat)(xs:List (List UInt8))(hcells:∀(j:Nat) x,xs[j]?=some x→w.cell? ⟨bk,o+j,none⟩=some (str x))(hbk:bk<w.heap.size)(hN:xs.length≤140737488355328)(hcap:xs.length≤c)(hlen:xs.flatten.length≤140737488355328):
 Calls Tryz.prog 71 #[.slice (some ⟨bk,o,none⟩) xs.length c] w (GivesT w xs.flatten):=by
 have e:(xs.map fun x=>(⟨x.toArray⟩:ByteArray)).map (fun x=>x.data.toList)=xs:=by
  rw[List.map_map];conv=>rhs;rw[←List.map_id xs]
  exact List.map_congr_left fun x _=>rfl
 have h:=Tryz.strings_Join bk o c (xs.map fun x=>(⟨x.toArray⟩:ByteArray)) ⟨#[]⟩ w (fun j x hx=>by
  rw[List.getElem?_map] at hx;obtain⟨y,hy,rfl⟩:=Option.map_eq_some_iff.1 hx;exact hcells j y hy) hbk (by simpa using hN) (by simpa using hcap) (by rw[e,join_flat];exact hlen)
 rw[e,join_flat,List.length_map] at h;go_enter Tryz.func71,Tryz.ntmps71
 go_wp2_with (go_at_call 114;refine h.mono ?_;rintro e w' ⟨rfl,hb⟩)
 go_ret;exact⟨rfl,hb⟩
def zerosS (c:Nat): Array Value:=(List.replicate c (Value.string ⟨#[]⟩)).toArray
theorem made_zerosS (c:Nat): madeCells (Value.string ⟨#[]⟩).cells (c*1)=zerosS c:=by
 apply Array.ext'
 rw[zerosS,Nat.mul_one]
 apply List.ext_getElem?
 intro i;simp[madeCells,Value.cells,List.getElem?_replicate,Nat.mod_one]
 by_cases h:i<c<;>simp[h]
set_option maxRecDepth 100000 in
theorem make_str (b:Nat)(hb:b≤1000000000)(w:World):
 (Instr.makeSlice 128 (.int .i64 0) (.int .i64 (b:Int))).run Tryz.prog w=.ok (.slice (some ⟨w.heap.size,0,none⟩) 0 b) (w.alloc (.cells (zerosS b) 9)):=by
 obtain⟨i0,hi,hz0,hz1,hz2⟩:=info_parts info_str;have:=run_make (P:=Tryz.prog) w 128 9 i0 (.string ⟨#[]⟩) Tryz.underlying128 hi hz0 .i64 .i64 0 (b:Int) (by omega) (by omega) (by rw[hz2];omega) (by omega);rw[this,hz1,Int.toNat_natCast,made_zerosS];rfl
set_option maxHeartbeats 4000000 in
set_option maxRecDepth 100000 in
theorem digitsNat_main {w:World}{A:Option Addr}{n c:Nat}{l:List Nat}(hv:Num w w.heap.size (.slice A n c) l)(hI:M.isNat l=true)(hne:l≠[])(hle:l.length≤1000000)(ht:Tab w):
 Calls Tryz.prog 68 #[.slice A n c] w (GivesT w (Lib.decDigits (M.nv l))):=by
 have HV:=hid hv;obtain⟨A',n',c',e,hn,hc,hmx,hsm,hr⟩:=hv;injection e with e1 e2 e3;subst e1 e2 e3;obtain⟨h,rfl⟩:∃h,n=h+1:=⟨n-1,by have:l.length≠0:=fun h=>hne (List.eq_nil_of_length_eq_zero h);omega⟩;obtain⟨ad,x,rfl,had,HX,hcell⟩:=Row.get hr (k:=h) (by omega);have HI:=hid hI;have HS:=hid hsm;have HN:=hid hn;have hx:=hsm x (List.mem_of_getElem? HX.out);have hc9:c≤9223372036854775807:=by unfold maxLen at hmx;omega
 have hh:h+1≤1000000:=by omega
 have HT:=hid ht;have HLE:=hid hle;have HNE:=hid hne;clear hI hsm hn ht hle hne hr hmx;refine(callsIn_wide (n:=9)).1 (callsIn_of_wp_marks Tryz.func68 rfl trivial ?_ rfl);refine wpIn_wide.2 ?_;simp only[Tryz.ntmps68,List.size_toArray,List.length_cons,List.length_nil,Nat.reduceAdd,Nat.reduceSub,Array.replicate_succ,Array.replicate_zero,List.push_toArray,List.append_toArray,List.nil_append,List.cons_append];have hmk:=make_str (h+1) (by omega) w;rw[show ((h+1:Nat):Int)=(h:Int)+1 by omega] at hmk;go_wp2_with (go_at_call 107;refine(isNat_l HV.out HI.out).mono ?_;rintro e wq ⟨rfl,rfl⟩)
 refine wp_at (fun W1=>Box W1 (w.heap.size+1) #[.slice (some ⟨w.heap.size,0,none⟩) 0 (h+1)] 128∧OwnS w.heap.size W1 (.slice (some ⟨w.heap.size,0,none⟩) 0 (h+1)) 0 []∧Ext w W1) ⟨?_,?_,?_⟩ ?_
 ·exact Box.at_ _ _ (by simp)
 ·exact World.ownsRow.alloc (World.ownsRow_made w (zerosS (h+1)) (h+1) (base:=w.heap.size) (e:=9) (size:=1) (Nat.le_refl _) (by unfold maxLen;omega) (by simp[zerosS])) _
 ·exact((Ext.refl w).alloc' _).alloc' _
 intro W1 ⟨hb4,how,he⟩;have B4:=hid hb4;have OW:=hid how;have E:=hid he;have KC:=hid (show CellAt W1 (ad.add h) (.int .u32 (x:Int)) from CellAt.up (show CellAt w _ _ from hcell) he);have HT0:=HT;replace HT:=hid (HT.out.up he);clear hb4 how he hcell hmk;refine Code.wp_mono (fun e a w=>noPanic_le e a w) ?_;refine wp_region_D [(0,0),(1,0),(2,0),(3,0),(4,0),(5,0),(6,1),(7,1),(8,4),(9,4)] fun wd hb=>?_;replace E:=hid (E.out.trans hb);replace B4:=hid (B4.out.up hb);replace KC:=hid (KC.out.up hb);replace HT:=hid (HT.out.up hb);replace OW:=hid (OW.out.up hb);clear hb;refine WE.q 21 (.slice (some ⟨w.heap.size,0,none⟩) 0 (h+1)) rfl (fun w' hk=>by have c0:=(B4.out.up hk).k 0;go_simp) ?_;refine WE.p 22 (.slice (some ad) (h+1) c) ?_;refine WE.p 23 (.int .i64 (h:Int)) ?_;refine WE.q 24 (.pointer (some (ad.add h))) rfl (fun w' hk=>by have hk1:((h:Int)+1≤(h:Int))=False:=(by simp;omega);go_simp) ?_;refine WE.q 25 (.int .u32 (x:Int)) rfl (fun w' hk=>by have c0:w'.cell? (ad.add h)=some (.int .u32 (x:Int)):=KC.out.up hk;go_simp) ?_;refine WE.q 26 (.int .u64 (x:Int)) rfl (fun w' hk=>by have q1:IntKind.u64.wrap (x:Int)=(x:Int):=(by rw[IntKind.wrap_u64];omega);go_simp) ?_;simp only[Act.put,pA,pB,pC];refine WE.call (d:=some 27) rfl rfl (by rfl) (f:=108) (args:=#[(.int .u64 (x:Int)),(.int .i64 (10))]) (by go_simp) ?_;refine(fmt_n x (by omega) _ HT.out).mono ?_;rintro e wn ⟨rfl,hb⟩;refine⟨_,rfl,hb,?_⟩;replace E:=hid (E.out.trans hb);replace B4:=hid (B4.out.up hb);replace OW:=hid (OW.out.up hb);clear hb;simp only[Act.put,pA,pB,pC];refine WE.new (d:=some 28) (cs:=#[str (Lib.decDigits x)]) (t:=9) (v:=fun g=>(.slice (some ⟨g,0,none⟩) 1 1)) rfl rfl (by rfl) (fun w=>by go_simp) fun gL1 wv hx0 hbox hge=>?_;replace E:=hid (E.out.trans hx0);replace B4:=hid (B4.out.up hx0);replace OW:=hid (OW.out.up hx0);have L1:Hid (Box wv gL1 #[str (Lib.decDigits x)] 9):=hid hbox;clear hx0 hbox hge;simp only[Act.put,pA,pB,pC];obtain⟨i0,hi,hz0,hz1,hz2⟩:=info_parts info_str;refine WE.appS (d:=some 29) rfl rfl (by rfl) (.tmp 21) (.tmp 28) 128 rfl w.heap.size 9 i0 (.string ⟨#[]⟩) 16 Tryz.underlying128 hi hz0 hz1 hz2 rfl _ _ _ rfl OW.out ⟨gL1,0,none⟩ 1 1 [str (Lib.decDigits x)] rfl rfl (L1.out.one) (by simp[Value.oneCell']) (by unfold maxLen;simp) (by simp) E.out.size ?_;intro v' ws hown' hgrow;have hown':ws.ownsRow w.heap.size 9 1 v' 1 [str (Lib.decDigits x)]:=hown';obtain⟨gv,cv,rfl⟩:=ownsRow_succ hown';have hb2:Boxed ws (w.heap.size+1) 128 _:=Boxed.kept (show Boxed _ _ _ _ from B4.out) hgrow ((show Boxed _ _ _ _ from B4.out).not_row (by decide) OW.out);have he2:Ext w ws:=Below.grown E.out hgrow E.out.size (fun k e=>own_low OW.out e);replace B4:=hid (show Box ws (w.heap.size+1) _ _ from hb2);replace OW:=hid hown';replace E:=hid he2;clear hown' hgrow hb2 he2 L1 KC HT hi hz0 hz1 hz2;simp only[Act.put,pA,pB,pC];refine WE.store rfl rfl (by rfl) (w':=_) (by have c0:=B4.out.cell (o:=0) (v:=.slice (some ⟨w.heap.size,0,none⟩) 0 (h+1)) rfl;have f0:=B4.out.free 0;go_simp;rfl) (by simp) ?_;refine WE.done ?_;obtain⟨h1,h2⟩:=(show (Boxed _ (w.heap.size+1) 128 (.slice (some ⟨gv,0,none⟩) 1 cv))∧_ from⟨Boxed.set (.slice (some ⟨gv,0,none⟩) 1 cv) (show Boxed _ _ _ _ from B4.out),OW.out.kept (grownBy_setCell' _ (w.heap.size+1) (.slice (some ⟨gv,0,none⟩) 1 cv)) (.inr ((show Boxed _ _ _ _ from B4.out).not_row (by decide) OW.out).symm)⟩);have h3:Ext w (World.setCell _ ⟨w.heap.size+1,0,none⟩ (.slice (some ⟨gv,0,none⟩) 1 cv)):=E.out.set' (p:=⟨w.heap.size+1,0,none⟩) (Nat.le_succ _) _;clear B4 OW E
 dsimp only[noPanic]
 go_wp2_with (go_at_call 109;refine(back_n _ _ _ _).mono ?_;rintro e w' ⟨rfl,rfl⟩)
 obtain⟨Bs,hBs⟩:∃Bs,Bs=ws.heap.size:=⟨_,rfl⟩;rw[←hBs];refine wp_at (fun W3=>Boxed W3 (w.heap.size+1) 128 (.slice (some ⟨gv,0,none⟩) 1 cv)∧OwnS w.heap.size W3 (.slice (some ⟨gv,0,none⟩) 1 cv) 1 [str (Lib.decDigits x)]∧Boxed W3 Bs 22 (.slice (some ad) h c)∧Ext w W3) ⟨h1.alloc _,World.ownsRow.alloc h2 _,?_,h3.alloc' _⟩ ?_
 ·have e:(ws.setCell ⟨w.heap.size+1,0,none⟩ (.slice (some ⟨gv,0,none⟩) 1 cv)).heap.size=Bs:=by rw[hBs];simp
  rw[←e];exact Boxed.new _ _ _
 intro W3 ⟨b4,own,bs,ext⟩;have hrow:=HV.out.row.1;have HX2:=HX;clear h1 h2 h3 hBs HX;refine(wpIn_wide (n:=9)).1 ?_
 refine wpIn_rangeFunc_ownG (F:=Fence.wide) (n:=9) rfl (by decide) (gf:=143) (lb:=#[.pointer (some ⟨Bs,0,none⟩)]) rfl trivial (enters_of Tryz.func143 (by kernel_rfl) rfl)
  (back_stops Fence.wide 8 trivial rfl (by decide) Bs w.heap.size (some ad) h c (l.take h) (by rw[List.length_take];have:=HN.out;omega) (by omega) (hid fun y hy=>HS.out y (List.mem_of_mem_take hy)) W3 bs.lt ext.size bs.cell ((hrow.take h).keep ext.below (Nat.le_refl _)))
  (fun h k=>BackK.trans h k) (backK_b ext.size bs.lt) (Below.refl _ _) (fun _=>rfl)
  (fun (pre:List (Nat×U32)) W=>((∃v,Boxed W (w.heap.size+1) 128 v∧W.ownsRow w.heap.size 9 1 v (pre.length+1) ((Lib.decDigits x::pre.map (fun y=>M.nine y.2.1)).map str)∧True)∧Boxed W Bs 22 (.slice (some ad) h c))∧Below w.heap.size w W)
  (fun _ _ _=>False)
  (OwnFrom.and (OwnFrom.and (Own.from (holdsRow_own w.heap.size (w.heap.size+1) 128 9 1 (fun (pre:List (Nat×U32))=>pre.length+1) (fun pre=>(Lib.decDigits x::pre.map (fun y=>M.nine y.2.1)).map str) (fun _ _=>True)) _) (Own.from (boxed_own Bs 22 (fun _=>.slice (some ad) h c)) _)) (ownFrom_below (Nat.le_refl _) ext.size))
  (fun _ _ _ _ _ hs _ _=>hs)
  ⟨⟨⟨_,b4,own,trivial⟩,bs⟩,ext⟩
  (fun y=>{ tmps:=#[.slice (some ad) (h+1) c,undef,.string ⟨#[]⟩,.int .i64 (h:Int),.pointer (some ⟨w.heap.size+1,0,none⟩),undef,.int .u32 (y.2.1:Int),.slice (some ad) (h+1) c,.int .i64 ((h:Int)+1),.bool false,.bool false,.slice (some ad) (h+1) c,.bool true,.bool false,.bool false,.slice (some ad) (h+1) c,.int .i64 ((h:Int)+1),.int .i64 (h:Int),.slice (some ad) (h+1) c,.int .i64 ((h:Int)+1),.slice (some ⟨w.heap.size,0,none⟩) 0 (h+1),.slice (some ⟨w.heap.size,0,none⟩) 0 (h+1),.slice (some ad) (h+1) c,.int .i64 (h:Int),.pointer (some (ad.add h)),.int .u32 (x:Int),.int .u64 (x:Int),str (Lib.decDigits x),.slice (some ⟨gL1,0,none⟩) 1 1,.slice (some ⟨gv,0,none⟩) 1 cv,.slice (some ad) (h+1) c,.int .i64 (h:Int),.slice (some ad) h c,.func (.func 143) #[] #[.pointer (some ⟨Bs,0,none⟩)],.int .i64 (y.1:Int),.int .u32 (y.2.1:Int),undef,undef,undef,undef,undef,undef,undef],defers:=[] }) ?assign ?body ?done ?stop
 case assign=>
  intro l' y W K hK
  gi_wp2
  exact hK
 case body=>
  rintro l' pre y W ⟨⟨⟨v,hb,ho,-⟩,hbs⟩,hB⟩ hpl;obtain⟨gq,cq,rfl⟩:=ownsRow_succ ho;have hc1:=hb.cell;have T:=Tab.up HT0.out hB;have hf1:=hb.frozen;have mixed:Tryz.prog.follows .mixedOrders=true:=by kernel_rfl
  have hne:Bs≠w.heap.size+1:=by
   rintro rfl;have h9:=(show W.heap[w.heap.size+1]?=_ from hb).symm.trans hbs;simp at h9
  have hpl':pre.length<h+1:=by rw[List.length_take] at hpl;omega
  obtain⟨i0,hi,hz0,hz1,hz2⟩:=info_parts info_str;have e1:((Lib.decDigits x::(pre++[y]).map (fun y=>M.nine y.2.1)).map str)=((Lib.decDigits x::pre.map (fun y=>M.nine y.2.1)).map str)++[str (M.nine y.2.1)]:=by simp
  have e2:(pre++[y]).length+1=pre.length+1+1:=by simp
  have HPL:=hid hpl';have HE1:=hid e1;have HE2:=hid e2;clear hpl hpl' e1 e2;have T':Tab W.drew:=T.up (Below.drew (Below.refl _ _));have hnine:∀R,(∀w',Ext W.drew w'→R (.returned (str (M.nine y.2.1))) w')→CallsIn (Fence.wide.inRound l') 6 Tryz.prog 110 #[.int .u32 (y.2.1:Int)] W.drew R:=fun R hR=>(CallsIn.inRound l' (callsIn_wide.2 (nine_n y.2.1 y.2.2 _ T'))).mono fun e w' ⟨he,hE⟩=>by subst he;exact hR _ hE
  have happ:∀w',Ext W.drew w'→∃g2 c2 w2,(Builtin.append_ #[128,128] 128 #[.slice (some ⟨gq,0,none⟩) (pre.length+1) cq,.slice (some ⟨w'.heap.size,0,none⟩) 1 1]).run Tryz.prog (w'.alloc (.cells #[str (M.nine y.2.1)] 9))=.ok (.slice (some ⟨g2,0,none⟩) (pre.length+1+1) c2) w2 ∧
   Boxed w2 (w.heap.size+1) 128 (.slice (some ⟨gq,0,none⟩) (pre.length+1) cq)∧Boxed w' (w.heap.size+1) 128 (.slice (some ⟨gq,0,none⟩) (pre.length+1) cq) ∧
   ownPostG W3.heap.size (BackK Bs w.heap.size) (fun (pre:List (Nat×U32)) W=>((∃v,Boxed W (w.heap.size+1) 128 v∧W.ownsRow w.heap.size 9 1 v (pre.length+1) ((Lib.decDigits x::pre.map (fun y=>M.nine y.2.1)).map str)∧True)∧Boxed W Bs 22 (.slice (some ad) h c))∧Below w.heap.size w W) (fun _ _ _=>False) (pre++[y]) W .normal { tmps:=#[],defers:=[] } (w2.setCell ⟨w.heap.size+1,0,none⟩ (.slice (some ⟨g2,0,none⟩) (pre.length+1+1) c2)):=by
   intro w' hE;have hb':Boxed w' (w.heap.size+1) 128 _:=(hE.block _ hb.lt).trans hb;have hbs':Boxed w' Bs 22 _:=(hE.block _ hbs.lt).trans hbs;have ho':w'.ownsRow w.heap.size 9 1 (.slice (some ⟨gq,0,none⟩) (pre.length+1) cq) (pre.length+1) _:=ownsRow_up (w:=W.drew) ho hE;have hs1:w.heap.size≤W.heap.size:=hB.size;have hs2:W.heap.size≤w'.heap.size:=hE.size;obtain⟨v2,w2,hrun,hown2,hgrow2,-⟩:=run_append_own (P:=Tryz.prog) (w'.alloc (.cells #[str (M.nine y.2.1)] 9)) w.heap.size 128 128 9 i0 (.string ⟨#[]⟩) 1 16 Tryz.underlying128 hi hz0 hz1 hz2 rfl (by decide) (.slice (some ⟨gq,0,none⟩) (pre.length+1) cq) (pre.length+1) _ (World.ownsRow.alloc ho' _) ⟨w'.heap.size,0,none⟩ 1 1 [str (M.nine y.2.1)] rfl (cell_one_new _ _ _) (by simp[Value.oneCell']) (by have:=HPL.out;unfold maxLen;omega) (by have:=HPL.out;omega) (by simp;omega);obtain⟨g2,c2,rfl⟩:=ownsRow_succ hown2;obtain⟨hv1,hv2,hr2,hk2,hb2⟩:=Boxed.appended hb' (by decide) ho' (by omega) (Nat.le_succ _) hown2 hgrow2;have hbs2:Boxed (w2.setCell ⟨w.heap.size+1,0,none⟩ (.slice (some ⟨g2,0,none⟩) (pre.length+1+1) c2)) Bs 22 (.slice (some ad) h c):=
    ((hbs'.alloc (.cells #[str (M.nine y.2.1)] 9)).kept hgrow2 ((hbs'.alloc (.cells #[str (M.nine y.2.1)] 9)).not_row (by decide) (World.ownsRow.alloc ho' (.cells #[str (M.nine y.2.1)] 9)))).other hne _
   have hE2:Below w.heap.size W w':=⟨hE.os,hE.tape,hE.output,hs2,fun k hk=>hE.block k (Nat.lt_of_lt_of_le hk hs1)⟩;have hKO:KeepsOthers W w':=⟨hs2,fun k o hk _=>(hE.block k (Array.getElem?_eq_some_iff.1 hk).1).trans hk⟩;refine⟨g2,c2,w2,hrun,hv1,hb',(hKO.trans hk2).from _,⟨hE2.trans hb2,(show _=_ from hbs2).trans (show _=_ from hbs).symm⟩,⟨⟨_,hv2,?_,trivial⟩,hbs2⟩,hB.trans (hE2.trans hb2)⟩;rw[HE1.out,HE2.out];exact hr2
  gi_wp2
  refine wpIn_region_any mixed ?_
  change wpAnyIn _ _ _ _ _ _ _ _ _ (World.drew _)
  refine wpAnyIn_ready (rs:=[0,1]) (by kernel_rfl) (by simp) ?_;refine AllReadyIn.cons rfl (fun K hK=>?_) ?_
  ·go_simp;refine hK _ _ ?_;clear hK K;refine wpAnyIn_ready (rs:=[1]) (by kernel_rfl) (by simp) ?_;refine AllReadyIn.cons rfl (fun K hK=>?_) ?_
   ·go_simp;refine hK _ _ ?_;clear hK K;refine wpAnyIn_ready (rs:=[2]) (by kernel_rfl) (by simp) ?_;refine AllReadyIn.cons rfl (fun K hK=>?_) ?_
    ·go_simp;refine⟨trivial,?_⟩;refine hnine _ ?_;intro w' hE;obtain⟨g2,c2,w2,hrun,hv1,hb',hend⟩:=happ w' hE;have hc3:=hb'.cell;have hc4:=(hb'.alloc (.cells #[str (M.nine y.2.1)] 9)).cell;have hc2:=hv1.cell;have hf2:=hv1.frozen;refine hK _ _ ?_;clear hK K;refine wpAnyIn_ready (rs:=[3]) (by kernel_rfl) (by simp) ?_;refine AllReadyIn.cons rfl (fun K hK=>?_) ?_
     ·go_simp;refine hK _ _ ?_;clear hK K;refine wpAnyIn_ready (rs:=[4]) (by kernel_rfl) (by simp) ?_;refine AllReadyIn.cons rfl (fun K hK=>?_) ?_
      ·refine wpIn_append_run (.tmp 36) (.tmp 39) 128 rfl _ rfl _ rfl hrun ?_;simp only[Act.put,pA,pB,pC];refine hK _ _ ?_;clear hK K;refine wpAnyIn_ready (rs:=[5]) (by kernel_rfl) (by simp) ?_;refine AllReadyIn.cons rfl (fun K hK=>?_) ?_
       ·go_simp;refine hK _ _ ?_;clear hK K;refine wpAnyIn_done (by kernel_rfl) ?_ _
        gi_wp2
        exact hend
       exact AllReadyIn.nil
      exact AllReadyIn.nil
     exact AllReadyIn.nil
    exact AllReadyIn.nil
   exact AllReadyIn.nil
  refine AllReadyIn.cons rfl (fun K hK=>?_) ?_
  ·go_simp;refine hK _ _ ?_;clear hK K;refine wpAnyIn_ready (rs:=[0,2]) (by kernel_rfl) (by simp) ?_;refine AllReadyIn.cons rfl (fun K hK=>?_) ?_
   ·go_simp;refine hK _ _ ?_;clear hK K;refine wpAnyIn_ready (rs:=[2]) (by kernel_rfl) (by simp) ?_;refine AllReadyIn.cons rfl (fun K hK=>?_) ?_
    ·go_simp;refine⟨trivial,?_⟩;refine hnine _ ?_;intro w' hE;obtain⟨g2,c2,w2,hrun,hv1,hb',hend⟩:=happ w' hE;have hc3:=hb'.cell;have hc4:=(hb'.alloc (.cells #[str (M.nine y.2.1)] 9)).cell;have hc2:=hv1.cell;have hf2:=hv1.frozen;refine hK _ _ ?_;clear hK K;refine wpAnyIn_ready (rs:=[3]) (by kernel_rfl) (by simp) ?_;refine AllReadyIn.cons rfl (fun K hK=>?_) ?_
     ·go_simp;refine hK _ _ ?_;clear hK K;refine wpAnyIn_ready (rs:=[4]) (by kernel_rfl) (by simp) ?_;refine AllReadyIn.cons rfl (fun K hK=>?_) ?_
      ·refine wpIn_append_run (.tmp 36) (.tmp 39) 128 rfl _ rfl _ rfl hrun ?_;simp only[Act.put,pA,pB,pC];refine hK _ _ ?_;clear hK K;refine wpAnyIn_ready (rs:=[5]) (by kernel_rfl) (by simp) ?_;refine AllReadyIn.cons rfl (fun K hK=>?_) ?_
       ·go_simp;refine hK _ _ ?_;clear hK K;refine wpAnyIn_done (by kernel_rfl) ?_ _
        gi_wp2
        exact hend
       exact AllReadyIn.nil
      exact AllReadyIn.nil
     exact AllReadyIn.nil
    exact AllReadyIn.nil
   refine AllReadyIn.cons rfl (fun K hK=>?_) ?_
   ·go_simp;refine⟨trivial,?_⟩;refine hnine _ ?_;intro w' hE;obtain⟨g2,c2,w2,hrun,hv1,hb',hend⟩:=happ w' hE;have hc3:=hb'.cell;have hc4:=(hb'.alloc (.cells #[str (M.nine y.2.1)] 9)).cell;have hc2:=hv1.cell;have hf2:=hv1.frozen;refine hK _ _ ?_;clear hK K;refine wpAnyIn_ready (rs:=[0,3]) (by kernel_rfl) (by simp) ?_;refine AllReadyIn.cons rfl (fun K hK=>?_) ?_
    ·go_simp;refine hK _ _ ?_;clear hK K;refine wpAnyIn_ready (rs:=[3]) (by kernel_rfl) (by simp) ?_;refine AllReadyIn.cons rfl (fun K hK=>?_) ?_
     ·go_simp;refine hK _ _ ?_;clear hK K;refine wpAnyIn_ready (rs:=[4]) (by kernel_rfl) (by simp) ?_;refine AllReadyIn.cons rfl (fun K hK=>?_) ?_
      ·refine wpIn_append_run (.tmp 36) (.tmp 39) 128 rfl _ rfl _ rfl hrun ?_;simp only[Act.put,pA,pB,pC];refine hK _ _ ?_;clear hK K;refine wpAnyIn_ready (rs:=[5]) (by kernel_rfl) (by simp) ?_;refine AllReadyIn.cons rfl (fun K hK=>?_) ?_
       ·go_simp;refine hK _ _ ?_;clear hK K;refine wpAnyIn_done (by kernel_rfl) ?_ _
        gi_wp2
        exact hend
       exact AllReadyIn.nil
      exact AllReadyIn.nil
     exact AllReadyIn.nil
    refine AllReadyIn.cons rfl (fun K hK=>?_) ?_
    ·go_simp;refine hK _ _ ?_;clear hK K;refine wpAnyIn_ready (rs:=[0]) (by kernel_rfl) (by simp) ?_;refine AllReadyIn.cons rfl (fun K hK=>?_) ?_
     ·go_simp;refine hK _ _ ?_;clear hK K;refine wpAnyIn_ready (rs:=[4]) (by kernel_rfl) (by simp) ?_;refine AllReadyIn.cons rfl (fun K hK=>?_) ?_
      ·refine wpIn_append_run (.tmp 36) (.tmp 39) 128 rfl _ rfl _ rfl hrun ?_;simp only[Act.put,pA,pB,pC];refine hK _ _ ?_;clear hK K;refine wpAnyIn_ready (rs:=[5]) (by kernel_rfl) (by simp) ?_;refine AllReadyIn.cons rfl (fun K hK=>?_) ?_
       ·go_simp;refine hK _ _ ?_;clear hK K;refine wpAnyIn_done (by kernel_rfl) ?_ _
        gi_wp2
        exact hend
       exact AllReadyIn.nil
      exact AllReadyIn.nil
     exact AllReadyIn.nil
    exact AllReadyIn.nil
   exact AllReadyIn.nil
  exact AllReadyIn.nil
 case done=>
  rintro D ys W hD hys ⟨⟨⟨v,hb,ho,-⟩,hbs⟩,hB⟩ hK;have hxs:(Lib.decDigits x::ys.map (fun y=>M.nine y.2.1))=M.pieces l:=pieces_of HN.out HX2.out hys;have hfl:(Lib.decDigits x::ys.map (fun y=>M.nine y.2.1)).flatten=Lib.decDigits (M.nv l):=by
   obtain⟨i1,i2⟩:=M.isNat_iff.1 HI.out;rw[hxs,M.dec_pieces i1 i2 HNE.out,M.nv,if_pos HI.out]
  have hlen:(Lib.decDigits (M.nv l)).length≤140737488355328:=by
   rw[M.dec_length];have h1:=M.dec_room l;have h2:=HLE.out;omega
  obtain⟨gq,cq,rfl⟩:=ownsRow_succ ho;have hyl:ys.length≤1000000:=by
   have:=congrArg List.length hys;simp at this;have h2:=HLE.out;omega
  have hc1:=hb.cell;obtain⟨hg1,hg2⟩:=own_room ho;have htog:=together_n (w:=W) gq 0 cq (Lib.decDigits x::ys.map (fun y=>M.nine y.2.1)) (fun j z hz=>by
   rw[Nat.zero_add];have:=ho.cells (g:=gq) rfl j _ (by rw[List.getElem?_map,hz];rfl)
   rwa [Addr.add_lit,Nat.zero_add] at this) hg1 (by simp;omega) (by simpa using hg2) (by rw[hfl];exact hlen)
  rw[hfl,show (Lib.decDigits x::ys.map (fun y=>M.nine y.2.1)).length=ys.length+1 by simp] at htog;clear hxs hfl hlen hyl;go_wp2_with (go_at_call 71;refine htog.mono ?_;rintro e w' ⟨rfl,hE⟩)
  have hK':w'.heap[D]?=some (.deferred (some [])):=(hE.block D (Array.getElem?_eq_some_iff.1 hK).1).trans hK;refine⟨by simp,.inl ⟨_,_,rfl,run_takeDeferred hK',?_⟩⟩;have hBe:Below w.heap.size w w':=hB.trans (Below.mono hE hB.size);exact⟨_,results_tmp rfl _ _ _,rfl,hBe.trans (belowK_b (w:=w) (Nat.le_refl _) w' D _ _ (by have:=ext.size;omega) hK' rfl rfl)⟩
 case stop=>
  rintro D c pre W _ _ h _;exact h.elim
theorem digitsNat_n {w:World}{v:Value}{l:List Nat}(hv:Num w w.heap.size v l)(hle:l.length≤1000000)(ht:Tab w):
 Calls Tryz.prog 68 #[v] w (GivesT w (Lib.decDigits (M.nv l))):=by
 obtain⟨A,n,c,rfl⟩:=hv.slice;have hn:=hv.row.2
 by_cases hne:l=[]
 ·subst hne;obtain rfl:n=0:=hn;have e:M.nv []=0:=rfl;rw[e,M.dec_small (by decide)];clear hv;refine(callsIn_wide (n:=9)).1 (callsIn_of_wp_marks Tryz.func68 rfl trivial ?_ rfl);refine wpIn_wide.2 ?_;simp only[Tryz.ntmps68,List.size_toArray,List.length_cons,List.length_nil,Nat.reduceAdd,Nat.reduceSub,Array.replicate_succ,Array.replicate_zero,List.push_toArray,List.append_toArray,List.nil_append,List.cons_append];go_wp2;exact⟨_,results_tmp rfl _ _ _,rfl,Ext.refl _⟩
 ·cases hI:M.isNat l with
  | true=>exact digitsNat_main hv hI hne hle ht
  | false=>
   have e:M.nv l=0:=by unfold M.nv;rw[hI];rfl
   rw[e,M.dec_small (by decide)];obtain⟨h,rfl⟩:∃h,n=h+1:=⟨n-1,by have:l.length≠0:=fun h=>hne (List.eq_nil_of_length_eq_zero h);omega⟩;have HV:=hid hv;have HI:=hid hI;have hh:h+1≤1000000:=by omega
   clear hv hI hn hle hne;refine(callsIn_wide (n:=9)).1 (callsIn_of_wp_marks Tryz.func68 rfl trivial ?_ rfl);refine wpIn_wide.2 ?_;simp only[Tryz.ntmps68,List.size_toArray,List.length_cons,List.length_nil,Nat.reduceAdd,Nat.reduceSub,Array.replicate_succ,Array.replicate_zero,List.push_toArray,List.append_toArray,List.nil_append,List.cons_append];go_wp2_with (go_at_call 107;refine(isNat_l HV.out HI.out).mono ?_;rintro e wq ⟨rfl,rfl⟩)
   exact⟨_,results_tmp rfl _ _ _,rfl,Ext.refl _⟩
open Go.RowKit
namespace M
def digit (b:UInt8): Bool:=decide (48≤b.toNat)&&decide (b.toNat≤57)
def numeral (l:List UInt8): Bool:=match l with
 | []=>false
 | b::r=>if b.toNat=48 then r.isEmpty else (b::r).all digit
end M
theorem idx_str (t:TypeId)(ht:Tryz.prog.underlying t=some .string)(l:List UInt8)(i:Nat)(b:UInt8){z:Int}(hz:z=(i:Int))(hb:l[i]?=some b)(w:World):
 (Instr.index t (str l) (.int .i64 z)).run Tryz.prog w=.ok (.int .u8 (b.toNat:Int)) w:=by
 subst hz;obtain⟨hlt,he⟩:=List.getElem?_eq_some_iff.1 hb;have hs:i<(⟨l.toArray⟩:ByteArray).size:=by rw[Lib.size_eq];simpa using hlt
 rw[run_index_string w t _ .i64 _ ht,dif_pos ⟨by omega,by omega⟩];have e:((i:Int)).toNat=i:=by omega
 simp only[e];rw[Lib.getD_at ⟨l.toArray⟩ i hs];simp[hb]
theorem all_take {l:List UInt8}{k:Nat}{b:UInt8}(h:l[k]?=some b)(ht:(l.take k).all M.digit=true)(hb:M.digit b=true): (l.take (k+1)).all M.digit=true:=by
 rw[List.take_add_one,h,List.all_append,ht];simp[hb]
namespace M
def inside (l:List UInt8): List UInt8×Bool:=
 if (Lib.hasPrefix l [40,45,32]&&Lib.hasSuffix (Lib.trimPrefix l [40,45,32]) [41])=true then (Lib.trimSuffix (Lib.trimPrefix l [40,45,32]) [41],true) else (l,false)
def num (l:List UInt8): Nat:=l.foldl (fun a b=>a*10+(b.toNat-48)) 0
theorem num_from:∀(l:List UInt8) (a:Nat),l.foldl (fun a b=>a*10+(b.toNat-48)) a=a*10^l.length+num l
 | [],a=>by simp[num]
 | b::r,a=>by
  have h2:num (b::r)=(0*10+(b.toNat-48))*10^r.length+num r:=num_from r (0*10+(b.toNat-48));rw[List.foldl_cons,num_from r,h2,List.length_cons,Nat.pow_succ,Nat.add_mul,Nat.zero_mul,Nat.zero_add,Nat.mul_assoc a 10,Nat.mul_comm 10];omega
theorem num_append (l m:List UInt8): num (l++m)=num l*10^m.length+num m:=by
 have:=num_from m (num l);rw[←this];unfold num;rw[List.foldl_append]
theorem num_cons (b:UInt8)(r:List UInt8): num (b::r)=(b.toNat-48)*10^r.length+num r:=by
 have h:=num_from r (0*10+(b.toNat-48));rw[Nat.zero_mul,Nat.zero_add] at h;rw[←h];show r.foldl _ (0*10+(b.toNat-48))=_;rw[Nat.zero_mul,Nat.zero_add]
theorem num_lt:∀{l:List UInt8},l.all digit=true→num l<10^l.length
 | [],_=>by simp[num]
 | b::r,h=>by
  rw[List.all_cons,Bool.and_eq_true] at h;have h1:=num_lt h.2;have h2:b.toNat-48≤9:=by have:=h.1;simp[digit] at this;omega
  rw[num_cons,List.length_cons,Nat.pow_succ];have:=Nat.mul_le_mul_right (10^r.length) h2;omega
theorem num_pos {b:UInt8}{r:List UInt8}(hb:b.toNat≠48)(hd:digit b=true): 0<num (b::r):=by
 have e:=num_append [b] r;rw[List.singleton_append] at e;rw[e];have h1:1≤num [b]:=by
  unfold digit at hd;simp at hd;show 1≤0*10+(b.toNat-48);omega
 have h2:1≤10^r.length:=Nat.one_le_pow _ _ (by decide);have:=Nat.mul_le_mul h1 h2;omega
theorem all_part {l:List UInt8}(h:l.all digit=true)(a b:Nat): ((l.drop a).take b).all digit=true:=
 List.all_eq_true.2 fun x hx=>List.all_eq_true.1 h x (List.mem_of_mem_drop (List.mem_of_mem_take hx))
theorem chunk {l:List UInt8}{e:Nat}(he:e≤l.length)(h0:0<e){V t:Nat}(hv:V+1000000000^t*num (l.take e)=num l):
 V+1000000000^t*num ((l.drop (e-9)).take (e-(e-9)))+1000000000^(t+1)*num (l.take (e-9))=num l:=by
 have hs:l.take e=l.take (e-9)++(l.drop (e-9)).take (e-(e-9)):=by
  conv=>lhs;rw[show e=(e-9)+(e-(e-9)) by omega,List.take_add]
 rw[←hv,hs,num_append];rcases Nat.lt_or_ge e 9 with h|h
 ·rw[show e-9=0 by omega];simp[num]
 ·have hl:((l.drop (e-9)).take (e-(e-9))).length=9:=by rw[List.length_take,List.length_drop];omega
  rw[hl,Nat.mul_add,Nat.pow_succ,Nat.mul_assoc,Nat.mul_comm (num (l.take (e-9))) (10^9)];show _=V+(1000000000^t*(1000000000*num (l.take (e-9)))+_);omega
end M
namespace M
def Chunks (l:List UInt8)(zs:List Nat)(z:Int): Prop:=z=(l.length:Int)-9*(zs.length:Int)∧small zs=true∧val zs+1000000000^zs.length*num (l.take z.toNat)=num l∧(z≤0→zs.getLast?≠some 0)
theorem Chunks.step {b:UInt8}{r:List UInt8}(hd:(b::r).all digit=true)(hb:b.toNat≠48){zs:List Nat}{e:Nat}(h:Chunks (b::r) zs (e:Int))(he:0<e){x:Nat}(hx:x=num (((b::r).drop (e-9)).take (e-(e-9)))):
 x<1000000000∧Chunks (b::r) (zs++[x]) ((e:Int)-9):=by
 obtain⟨h1,h2,h3,h4⟩:=h;have hel:e≤(b::r).length:=by omega
 have hx9:x<1000000000:=by
  have h5:=num_lt (all_part hd (e-9) (e-(e-9)));rw[←hx] at h5;refine Nat.lt_of_lt_of_le h5 (show _≤10^9 from Nat.pow_le_pow_right (by decide) ?_);rw[List.length_take];omega
 refine⟨hx9,by rw[List.length_append,List.length_singleton,h1];omega,by rw[small_append];exact⟨h2,by simp[small];omega⟩,?_,fun h0=>?_⟩
 ·have h5:=chunk hel he (V:=val zs) (t:=zs.length) (by rw[←h3];simp);rw[←hx] at h5;rw[val_snoc,List.length_append,List.length_singleton,show ((e:Int)-9).toNat=e-9 by omega];exact h5
 ·have hl:(zs++[x]).getLast?=some x:=by simp
  rw[hl,ne_eq,Option.some.injEq];have h9:e-9=0:=by omega
  rw[h9,List.drop_zero] at hx;obtain⟨j,hj⟩:∃j,e-0=j+1:=⟨e-1,by omega⟩;rw[hj,List.take_succ_cons] at hx;have hdb:digit b=true:=by rw[List.all_cons,Bool.and_eq_true] at hd;exact hd.1
  have:=num_pos (r:=r.take j) hb hdb;omega
theorem Chunks.done {l:List UInt8}{zs:List Nat}{z:Int}(h:Chunks l zs z)(hz:z≤0): zs=limbs (num l)∧zs.length≤(num l)+zs.length:=by
 obtain⟨h1,h2,h3,h4⟩:=h;refine⟨?_,by omega⟩;rw[show z.toNat=0 by omega] at h3;have:val zs=num l:=by rw[←h3];simp[num]
 rw[←this];exact(limbs_val h2 (h4 hz)).symm
end M
namespace M
def bad (l:List UInt8): Bool:=!numeral (inside l).1||((inside l).2&&(inside l).1==[48])
def perr (l:List UInt8): Int:=if bad l=true then 10 else if 360<(inside l).1.length then 11 else 0
def pval (l:List UInt8): Int:=if bad l=true∨360<(inside l).1.length then 0 else if (inside l).2=true then -(num (inside l).1:Int) else (num (inside l).1:Int)
def print (Z:Int): List UInt8:=if Z<0 then[40,45,32]++(Go.Lib.decDigits Z.natAbs++[41]) else Go.Lib.decDigits Z.natAbs
end M
def GivesP (w:World)(Z:Int)(k:Nat)(n:Int)(e:Ending)(w':World): Prop:=∃v,e=.returned (.tuple #[v,.int .i64 n])∧IsZ w' v Z k∧Ext w w'
theorem digitsNat_N {w:World}{v:Value}{N k:Nat}(hv:IsN w v N k)(hk:k≤1000000)(ht:Tab w): Calls Tryz.prog 68 #[v] w (GivesT w (Lib.decDigits N)):=by
 have h:=digitsNat_n hv.1 (Nat.le_trans hv.2 hk) ht;rw[M.nv_limbs] at h;exact h
theorem Box.texts {w:World}{g:Nat}{t:TypeId}{xs:List (List UInt8)}(h:Box w g (xs.map str).toArray t): ∀(j:Nat) x,xs[j]?=some x→w.cell? ⟨g,0+j,none⟩=some (str x):=by
 intro j x hx;rw[Nat.zero_add];exact h.cell (o:=j) (by simp[hx])
theorem IsZ.nil {w:World}: IsZ w (.agg #[.bool false,.slice none 0 0]) 0 0:=by
 refine⟨none,0,0,rfl,?_,?_⟩
 ·rw[show (0:Int).natAbs=0 from rfl,M.limbs_zero];exact Num.nil _ _
 ·rw[show (0:Int).natAbs=0 from rfl,M.limbs_zero];simp
theorem GivesP.to {w:World}{Z Y:Int}{j k:Nat}{n m:Int}(hZ:Z=Y)(hj:j≤k)(hn:n=m): ∀e w',GivesP w Z j n e w'→GivesP w Y k m e w':=by
 subst hZ hn;rintro e w' ⟨v,h1,h2,h3⟩;exact⟨v,h1,h2.wide hj,h3⟩
end Go.Proofs.YtoenjbkmiphhoaaGreatDoor
