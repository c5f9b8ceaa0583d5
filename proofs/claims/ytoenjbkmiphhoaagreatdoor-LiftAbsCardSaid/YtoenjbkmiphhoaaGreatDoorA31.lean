/-
  Layer 12: functions one behind the other: slices.Grow, slices.Concat; a structure's beginning and end.
-/
import Derived.Test.YtoenjbkmiphhoaaGreatDoorA26
import Derived.Lib.AppendZerosOnto
import Derived.Test.YtoenjbkmiphhoaaGreatDoorA28
namespace Go.Proofs.YtoenjbkmiphhoaaGreatDoor.Q
set_option linter.unusedSimpArgs false
set_option linter.unusedVariables false
open Go.RowKit
theorem info_FunV:(Tryz.prog.info? 65).map (fun i=>(i.zero,i.size,i.bytes))=some (some (.agg #[.string ⟨#[]⟩,.slice none 0 0,.int .i64 0,.slice none 0 0,.int .i64 0,.bool false,.slice none 0 0]),7,112):=by kernel_rfl
theorem slice_fromF {A:Option Addr}{n c k:Nat}(hk:k≤n)(w:World):
 (Instr.slice 101 (.slice A n c) (some (.int .i64 (k:Int))) none none).run Tryz.prog w=.ok (.slice (if c=k then A else A.map (·.add (k*7))) (n-k) (c-k)) w:=by
 obtain⟨i0,hi,hz0,hz1,hz2⟩:=info_parts info_FunV;simp[Instr.slice,run_underlying Tryz.underlying101,Instr.sliceBounds,run_sliceBound,sizeOf,typeInfo,hi,hz1,hk]
theorem slice_toF {A:Option Addr}{n c k:Nat}(hk:k≤c)(w:World):
 (Instr.slice 101 (.slice A n c) none (some (.int .i64 (k:Int))) none).run Tryz.prog w=.ok (.slice (if c=0 then A else A.map (·.add (0*7))) k c) w:=by
 obtain⟨i0,hi,hz0,hz1,hz2⟩:=info_parts info_FunV;simp[Instr.slice,run_underlying Tryz.underlying101,Instr.sliceBounds,run_sliceBound,sizeOf,typeInfo,hi,hz1,hk]
theorem FnList.to_ {w:World}{A:Option Addr}{n c:Nat}{l:List M.Fn}(h:FnList w l (.slice A n c)){k:Nat}(hk:k≤n): FnList w (l.take k) (.slice (if c=0 then A else A.map (·.add (0*7))) k c):=by
 obtain⟨A',n',c',e,hn,hc,hm,hz⟩:=h;injection e with e1 e2 e3;subst e1 e2 e3;refine⟨_,_,_,rfl,by rw[List.length_take];omega,by omega,hm,fun j x hx=>?_⟩;rw[List.getElem?_take] at hx
 split at hx
 ·have hlt:j<l.length:=(List.getElem?_eq_some_iff.1 hx).1;obtain⟨ad,ha,hbl,hf⟩:=hz _ _ hx;rw[if_neg (by omega),ha];have e:(ad.add (0*7)).add (j*7)=ad.add (j*7):=by rw[Addr.add_add,Nat.zero_mul,Nat.zero_add]
  exact⟨ad.add (0*7),rfl,by rw[addr_block];exact hbl,by rw[e];exact hf⟩
 ·cases hx
theorem FnList.from_ {w:World}{A:Option Addr}{n c:Nat}{l:List M.Fn}(h:FnList w l (.slice A n c)){k:Nat}(hk:k≤n): FnList w (l.drop k) (.slice (if c=k then A else A.map (·.add (k*7))) (n-k) (c-k)):=by
 obtain⟨A',n',c',e,hn,hc,hm,hz⟩:=h;injection e with e1 e2 e3;subst e1 e2 e3;refine⟨_,_,_,rfl,by rw[List.length_drop];omega,by omega,by omega,fun j x hx=>?_⟩;rw[List.getElem?_drop] at hx;have hlt:k+j<l.length:=(List.getElem?_eq_some_iff.1 hx).1;obtain⟨ad,ha,hbl,hf⟩:=hz _ _ hx;rw[if_neg (by omega),ha];have e:(ad.add (k*7)).add (j*7)=ad.add ((k+j)*7):=by rw[Addr.add_add,Nat.add_mul]
 exact⟨ad.add (k*7),rfl,by rw[addr_block];exact hbl,by rw[e];exact hf⟩
theorem wpList_grow {w w':World}{ops:Array Oper}{rest:List Oper}{o:Oper}{a:Act}{Q:Exit→Act→World→Prop}{t1 t2:TypeId}{v u v':Value}(hgd:o.guard=none)(s x:Operand)
 (ho:o.op=.call { callee:=.builtin .append,args:=#[s,x],argTypes:=#[t1,t2] }) (hs:a.eval s=v) (hx:a.eval x=u) (hr:(Builtin.append_ #[t1,t2] o.type #[v,u]).run Tryz.prog w=.ok v' w')
 (hq:wpList Tryz.prog ops Q rest (a.put o.dst v') w'):wpList Tryz.prog ops Q (o::rest) a w:=by
 refine wpList_plain hgd fun K hK=>?_;unfold Oper.wp execOp;simp only[ho,resolve,invoke,builtin,Sem.run_bind,Sem.run_pure,Result.andThen_ok,List.map_toArray,List.map_cons,List.map_nil,hs,hx,hr];exact hK _ _ hq
set_option maxHeartbeats 4000000 in
theorem grow_v {n:Nat}(hn:1≤n)(hn2:n≤500000)(w:World): Calls Tryz.prog 123 #[.slice none 0 0,.int .i64 (n:Int)] w (fun e w'=>∃v,e=.returned v∧OwnL FC 7 65 w.heap.size w w' v []∧Ext w w'):=by
 obtain⟨i0,hi,hz0,hz1,hz2⟩:=info_parts info_FunV;have hcm:∀old,grownCap w n old 65≤maxLen:=fun old=>grownCap_le_maxLen w _ old _ (by unfold maxLen;omega);have hge:∀old,n≤grownCap w n old 65:=fun old=>grownCap_ge w _ old _;have hrun:=Lib.run_append_grow_zeros (P:=Tryz.prog) w 101 3 101 65 i0 _ .i64 .i64 Tryz.underlying101 Tryz.underlying3 hi hz0 none 0 0 [] (by simp[Builtin.firstCells,loadCells,loadCellsFrom]) n (by omega) (by omega) (by omega) (by omega) (by rw[hz2];omega) (by rw[hz2];exact growslice_fits (by omega) (by omega));obtain⟨cap,hcap⟩:∃c,grownCap w (0+n) 0 65=c:=⟨_,rfl⟩;have h1:n≤cap:=by rw[←hcap,Nat.zero_add];exact hge 0
 have h2:cap≤maxLen:=by rw[←hcap,Nat.zero_add];exact hcm 0
 rw[hcap] at hrun;obtain⟨cur,hcur⟩:∃c,([]:List Value).toArray++Builtin.zeroCells (Value.agg #[.string ⟨#[]⟩,.slice none 0 0,.int .i64 0,.slice none 0 0,.int .i64 0,.bool false,.slice none 0 0]).cells n++Builtin.zeroCells (Value.agg #[.string ⟨#[]⟩,.slice none 0 0,.int .i64 0,.slice none 0 0,.int .i64 0,.bool false,.slice none 0 0]).cells (cap-(0+n))=c:=⟨_,rfl⟩;rw[hcur] at hrun;have hsz:cur.size=cap*7:=by
  rw[←hcur,Array.size_append,Array.size_append,size_zeroCells,size_zeroCells];simp[Value.cells];omega
 have HR:=hid hrun;have HS:=hid (show OwnL FC 7 65 w.heap.size w (w.drew.alloc (.cells cur 65)) (.slice (some ⟨w.heap.size,0,none⟩) 0 cap) [] from⟨[],World.ownsRow_made w.drew cur cap (Nat.le_refl _) h2 hsz,rfl⟩);have HE:=hid (show Ext w (w.drew.alloc (.cells cur 65)) from((Ext.refl w).drew').alloc' _);have hs1:=fun w=>show (Instr.slice 101 (.slice none 0 0) none (some (.int .i64 0)) none).run Tryz.prog w=.ok (.slice none 0 0) w from slice_toF (A:=none) (n:=0) (c:=0) (k:=0) (Nat.le_refl _) w;have hs2:=fun w'=>show (Instr.slice 101 (.slice (some ⟨w.heap.size,0,none⟩) n cap) none (some (.int .i64 0)) none).run Tryz.prog w'=.ok (.slice (some ⟨w.heap.size,0,none⟩) 0 cap) w' from by
  have:=slice_toF (A:=some ⟨w.heap.size,0,none⟩) (n:=n) (c:=cap) (k:=0) (Nat.zero_le _) w';rw[if_neg (by omega)] at this;exact this
 have hn0:¬((n:Int)<0):=by omega
 have hnN:decide (0<n)=true:=by simp;omega
 have hnZ:decide ((0:Int)<(n:Int))=true:=by simp;omega
 have hw:IntKind.i64.wrap (n:Int)=(n:Int):=by rw[IntKind.wrap_i64];omega
 clear hrun hcur hcap hi hz0 hz1 hz2 hcm hge hsz h1 h2 hn2 hn;go_enter Tryz.func123,Tryz.ntmps123
 go_wp2_with (at_builtin;refine wpList_grow (v':=.slice (some ⟨w.heap.size,0,none⟩) n cap) rfl (.tmp 20) (.tmp 21) rfl rfl rfl (by have h:=HR.out;rw[Nat.zero_add] at h;exact h) ?_)
 go_wp2_with fail
 go_ret;exact⟨_,rfl,HS.out,HE.out⟩
theorem wpList_appF {V:World}{B:Nat}{w:World}{ops:Array Oper}{rest:List Oper}{o:Oper}{a:Act}{Q:Exit→Act→World→Prop}(hgd:o.guard=none)(s x:Operand)
 (ho:o.op=.call { callee:=.builtin .append,args:=#[s,x],argTypes:=#[101,101] }) {v:Value} {l m:List M.Fn} {A:Option Addr} {n c:Nat}
 (hs:a.eval s=v) (hx:a.eval x=.slice A n c) (h:OwnL FC 7 65 B V w v l) (hsrc:LSrc FC V w m A n) (hlen:l.length+m.length≤1000000) (hbase:B≤w.heap.size)
 (hq:∀v' w',OwnL FC 7 65 B V w' v' (l++m)→Below B w w'→wpList Tryz.prog ops Q rest (a.put o.dst v') w'):wpList Tryz.prog ops Q (o::rest) a w:=by
 obtain⟨v',w',hr,h2,h3,-,-⟩:=vappL_run fck stk (c:=c) h hsrc hlen hbase o.type;refine wpList_plain hgd fun K hK=>?_;unfold Oper.wp execOp;simp only[ho,resolve,invoke,builtin,Sem.run_bind,Sem.run_pure,Result.andThen_ok,List.map_toArray,List.map_cons,List.map_nil,hs,hx,hr];exact hK _ _ (hq v' w' h2 h3)
def M.pick3 {α:Type}(a b c:α)(k:Nat): α:=if k=0 then a else if k=1 then b else c
def M.sum3 (a b c:Nat)(k:Nat): Nat:=if k=0 then 0 else if k=1 then a else if k=2 then a+b else a+b+c
def M.cat3 {α:Type}(a b c:List α)(k:Nat): List α:=if k=0 then[] else if k=1 then a else if k=2 then a++b else a++b++c
theorem M.sum3_succ {a b c k:Nat}(h:k<3): M.sum3 a b c (k+1)=M.sum3 a b c k+M.pick3 a b c k:=by
 match k,h with
 | 0,_=>simp[M.sum3,M.pick3]
 | 1,_=>simp[M.sum3,M.pick3]
 | 2,_=>simp[M.sum3,M.pick3]
theorem M.cat3_succ {α:Type}{a b c:List α}{k:Nat}(h:k<3): M.cat3 a b c (k+1)=M.cat3 a b c k++M.pick3 a b c k:=by
 match k,h with
 | 0,_=>simp[M.cat3,M.pick3]
 | 1,_=>simp[M.cat3,M.pick3]
 | 2,_=>simp[M.cat3,M.pick3]
theorem M.sum3_le {a b c k:Nat}(h:k≤3): M.sum3 a b c k≤a+b+c:=by
 match k,h with
 | 0,_=>simp[M.sum3]
 | 1,_=>simp[M.sum3];omega
 | 2,_=>simp[M.sum3]
 | 3,_=>simp[M.sum3]
theorem M.cat3_len {α:Type}{a b c:List α}{k:Nat}: (M.cat3 a b c k).length=M.sum3 a.length b.length c.length k:=by
 unfold M.cat3 M.sum3
 split
 ·rfl
 split
 ·rfl
 split
 ·simp
 ·simp;omega
set_option maxHeartbeats 8000000 in
theorem concat_v {l1 l2 l3:List M.Fn}{A1 A2 A3:Option Addr}{n1 n2 n3 c1 c2 c3 g:Nat}{T:TypeId}{w:World}(h1:FnList w l1 (.slice A1 n1 c1))(h2:FnList w l2 (.slice A2 n2 c2))(h3:FnList w l3 (.slice A3 n3 c3))(hb:Box w g #[.slice A1 n1 c1,.slice A2 n2 c2,.slice A3 n3 c3] T)
 (hpos:1≤n2) (hlen:n1+n2+n3≤300000):Calls Tryz.prog 79 #[.slice (some ⟨g,0,none⟩) 3 3] w (fun e w'=>∃v,e=.returned v∧FnList w' (l1++l2++l3) v∧Ext w w'):=by
 have hL1:=h1.le.1;have hL2:=h2.le.1;have hL3:=h3.le.1;obtain⟨S,hS⟩:∃S:Nat→Nat,M.sum3 n1 n2 n3=S:=⟨_,rfl⟩;have HS:=hid hS;have HB:=hid hb;have HCELL:=hid (show ∀k,k<3→w.cell? ⟨g,k,none⟩=some (.slice (M.pick3 A1 A2 A3 k) (M.pick3 n1 n2 n3 k) (M.pick3 c1 c2 c3 k)) from fun k hk=>by
  match k,hk with
  | 0,_=>exact hb.k 0
  | 1,_=>exact hb.k 1
  | 2,_=>exact hb.k 2)
 have HSRC:=hid (show ∀k,k<3→∀w',Ext w w'→LSrc FC w w' (M.pick3 l1 l2 l3 k) (M.pick3 A1 A2 A3 k) (M.pick3 n1 n2 n3 k) from fun k hk w' e=>by
  match k,hk with
  | 0,_=>exact h1.src e.sub
  | 1,_=>exact h2.src e.sub
  | 2,_=>exact h3.src e.sub)
 have HSB:=hid (show ∀k,k≤3→S k≤300000 from fun k hk=>by rw[←hS];exact Nat.le_trans (M.sum3_le hk) hlen);have HSS:=hid (show ∀k,k<3→S (k+1)=S k+M.pick3 n1 n2 n3 k from fun k hk=>by rw[←hS];exact M.sum3_succ hk);have HS0:=hid (show S 0=0 by rw[←hS];rfl);have HS3:=hid (show 1≤S 3 by rw[←hS];simp[M.sum3];omega);have HCL:=hid (show ∀k,(M.cat3 l1 l2 l3 k).length=S k from fun k=>by rw[M.cat3_len,←hL1,←hL2,←hL3,hS]);clear h1 h2 h3 hb hL1 hL2 hL3 hS hpos hlen;go_enter Tryz.func79,Tryz.ntmps79
 go_wp2_with fail
 go_loopw[3,11] (fun x3 i wr=>∃k:Nat,k≤3∧i=.int .i64 (k:Int)∧x3=.int .i64 (S k:Int)∧Hid (w=wr)) (fun _ i _=>3-(intOf i).toNat)
 case atStart=>exact⟨0,Nat.zero_le _,rfl,by rw[HS0.out];rfl,rfl⟩
 case round=>
  obtain⟨k,hk,rfl,rfl,hR⟩:=hrel;obtain rfl:=hR.out;clear hR
  by_cases hlt:k<3
  ·have hlt':(k:Int)<3:=by omega
   have hcell:=HCELL.out k hlt;obtain⟨Ak,hAk⟩:∃a,M.pick3 A1 A2 A3 k=a:=⟨_,rfl⟩;obtain⟨nk,hnk⟩:∃a,M.pick3 n1 n2 n3 k=a:=⟨_,rfl⟩;obtain⟨ck,hck⟩:∃a,M.pick3 c1 c2 c3 k=a:=⟨_,rfl⟩;rw[hAk,hnk,hck] at hcell;obtain⟨s,hs⟩:∃s,S k=s:=⟨_,rfl⟩;obtain⟨s2,hs2⟩:∃s,S (k+1)=s:=⟨_,rfl⟩;have hsum:(s:Int)+(nk:Int)=(s2:Int):=by have:=HSS.out k hlt;omega
   have hsb:s2≤300000:=by have:=HSB.out (k+1) (by omega);omega
   have hwr:IntKind.i64.wrap (s2:Int)=(s2:Int):=by rw[IntKind.wrap_i64];omega
   have hneg:decide ((s2:Int)<0)=false:=by simp
   have HS2:=hid hs2;rw[hs];clear hAk hnk hck hs hs2 hsb;go_wp2_with fail
   go_roundw
   case rel=>exact⟨k+1,by omega,by simp,by simp[HS2.out],by trivial⟩
   case measure=>simp[intOf];omega
  ·obtain rfl:k=3:=by omega
   obtain⟨s,hs⟩:∃s,S 3=s:=⟨_,rfl⟩;have HGR:=hid (grow_v (n:=s) (by have:=HS3.out;omega) (by have:=HSB.out 3 (by omega);omega) w);rw[hs];have HSE:=hid hs;clear hs hlt;go_wp2_with fail
   refine HGR.out.mono ?_;rintro e w1 ⟨v1,rfl,hO1,hx⟩;have HO1:=hid hO1;have E1:=hid hx;clear hO1 hx HGR;go_wp2_with fail
   go_loopw[6,27] (fun x6 i wr=>∃k:Nat,k≤3∧i=.int .i64 (k:Int)∧Hid (OwnL FC 7 65 w.heap.size w wr x6 (M.cat3 l1 l2 l3 k)∧Ext w wr)) (fun _ i _=>3-(intOf i).toNat)
   case atStart=>exact⟨0,Nat.zero_le _,rfl,HO1.out,E1.out⟩
   case round=>
    obtain⟨k,hk,rfl,hR⟩:=hrel;have HO:=hid hR.out.1;have E:=hid hR.out.2;clear hR
    by_cases hlt:k<3
    ·have hlt':(k:Int)<3:=by omega
     have hcell:=E.out.cell (HCELL.out k hlt);have hsrc:=HSRC.out k hlt wr E.out;obtain⟨Ak,hAk⟩:∃a,M.pick3 A1 A2 A3 k=a:=⟨_,rfl⟩;obtain⟨nk,hnk⟩:∃a,M.pick3 n1 n2 n3 k=a:=⟨_,rfl⟩;obtain⟨ck,hck⟩:∃a,M.pick3 c1 c2 c3 k=a:=⟨_,rfl⟩;rw[hAk,hnk] at hsrc;rw[hAk,hnk,hck] at hcell;have HSR:=hid hsrc;have HLE:=hid (show (M.cat3 l1 l2 l3 k).length+(M.pick3 l1 l2 l3 k).length≤1000000 by
      have h1:=HCL.out (k+1);rw[M.cat3_succ hlt,List.length_append] at h1;have:=HSB.out (k+1) (by omega);omega)
     clear hAk hnk hck hsrc;go_wp2_with (at_builtin;refine wpList_appF rfl (.tmp 31) (.tmp 32) rfl (B:=w.heap.size) (V:=w) (l:=M.cat3 l1 l2 l3 k) (m:=M.pick3 l1 l2 l3 k) rfl rfl HO.out HSR.out HLE.out E.out.size ?_)
     intro v' w5 hO5 hB5;have HO5:=hid hO5;have E5:=hid (show Ext w w5 from Below.trans (B:=w.heap.size) E.out hB5);clear hO5 hB5;go_wp2_with fail
     go_roundw
     case rel=>exact⟨k+1,by omega,by simp,by rw[M.cat3_succ hlt];exact HO5.out,E5.out⟩
     case measure=>simp[intOf];omega
    ·obtain rfl:k=3:=by omega
     go_wp2;go_ret;exact⟨_,rfl,OwnL.funs HO.out E.out.sub (Nat.le_refl _) (fun a u _ h=>h),E.out⟩
theorem M.mRead_asc (m:List M.Fn): M.kAsc ((M.mRead m).map M.Fn.sg):=by
 unfold M.mRead
 split
 ·rename_i h;exact M.mIs_asc h
 ·exact M.kAsc_nil
theorem M.mRead_mem {m:List M.Fn}{f:M.Fn}(h:f∈M.mRead m): f∈m:=by
 unfold M.mRead at h
 split at h
 ·exact h
 ·cases h
theorem M.mRead_len (m:List M.Fn): (M.mRead m).length≤m.length:=by
 unfold M.mRead
 split
 ·exact Nat.le_refl _
 ·exact Nat.zero_le _
def GivesFs (w:World)(l:List M.Fn)(e:Ending)(w':World): Prop:=∃v,e=.returned v∧FnList (gp (fun b=>w.heap.size≤b) w') l v∧Ext w w'
abbrev M.constF (nm:List UInt8)(x:M.Vl): M.Fn:=⟨⟨nm,[],x.1⟩,[],x⟩
theorem M.constF_wd {nm:List UInt8}{x:M.Vl}(hnm:nm.length≤1000000000000)(hx:x.2.2.length≤2000000): M.funWd (M.constF nm x):=⟨Nat.zero_le _,hnm,Nat.zero_le _,fun r hr=>(by cases hr),hx⟩
theorem constF_list {nm:List UInt8}{x:M.Vl}{g nn nc:Nat}{N:Option Addr}{w:World}(hb:Box w g #[str nm,.slice none 0 0,.int .i64 x.1,.slice none 0 0,.int .i64 x.1,.bool x.2.1,.slice N nn nc] 65)(hn:LNum w (.slice N nn nc) x.2.2): FnList w [M.constF nm x] (.slice (some ⟨g,0,none⟩) 1 1):=by
 refine⟨_,_,_,rfl,rfl,Nat.le_refl _,by unfold maxLen;omega,fun k f hf=>⟨_,rfl,hb.lt,?_⟩⟩;obtain rfl:k=0:=by
  have:=(List.getElem?_eq_some_iff.1 hf).1;simp at this;exact this
 obtain rfl:M.constF nm x=f:=by simpa using hf
 exact⟨none,0,0,none,0,0,N,nn,nc,⟨⟨hb.k 0,hb.k 1,hb.k 2⟩,hb.k 3,hb.k 4,hb.k 5,hb.k 6⟩,⟨none,0,0,rfl,rfl,Nat.le_refl _,Nat.zero_le _,fun h=>absurd rfl h⟩,RwList.nil _,hn⟩
theorem vexec_from1 {w:World}{v u:Value}{o:Oper}{a:Act}(s:Operand)(ho:o.op=.slice 101 s (some (.const (.int .i64 1))) none none)(hs:a.eval s=v)
 (hr:(Instr.slice 101 v (some (.int .i64 1)) none none).run Tryz.prog w=.ok u w):(execOp a.eval o).run Tryz.prog w=.ok (.value u) w:=by
 have h2:(Instr.sliceAt 101 v (some (.int .i64 1)) none none).run Tryz.prog w=.ok u w:=by
  have e:(Instr.sliceAt 101 v (some (.int .i64 1)) none none).run Tryz.prog w=(Instr.slice 101 v (some (.int .i64 1)) none none).run Tryz.prog w:=by simp[Instr.sliceAt,run_underlying Tryz.underlying101]
  rw[e];exact hr
 unfold execOp;simp only[ho,hs,Option.map,Sem.run_bind,Sem.run_pure,Result.andThen_ok];rw[show a.eval (.const (.int .i64 1))=.int .i64 1 from rfl,h2];rfl
set_option maxHeartbeats 8000000 in
set_option maxRecDepth 10000 in
theorem put_v {m:List M.Fn}{nm:List UInt8}{x:M.Vl}{mv v:Value}{w:World}(h:FnList w m mv)(hx:IsVl w x v)(hlen:m.length≤50000)(hwd:∀f∈m,M.funWd f)(hnm:nm.length≤1000000000000)(hxw:x.2.2.length≤2000000):
 Calls Tryz.prog 45 #[mv,str nm,v] w (GivesFs w (M.mPut (M.mRead m) (M.constF nm x))):=by
 obtain⟨xs,xg,xl⟩:=x;obtain⟨N,nn,nc,rfl,hn⟩:=hx;replace hn:LNum w (.slice N nn nc) xl:=hn;replace hxw:xl.length≤2000000:=hxw;have HRD:=hid (show ∀w',Ext w w'→Calls Tryz.prog 77 #[mv] w' (fun e w''=>∃u,e=.returned u∧FnList w' (M.mRead m) u∧Ext w' w'') from fun w' e=>read_v (h.up e) fun f hf=>(hwd f hf).2.1);obtain⟨A,c,rfl⟩:=h.shape;obtain⟨mn,hmn⟩:∃n,m.length=n:=⟨_,rfl⟩;rw[hmn] at HRD;have hasc:=M.mRead_asc m;have hln:=Nat.le_trans (M.mRead_len m) hlen;have hwd2:∀f∈M.mRead m,M.funWd f:=fun f hf=>hwd f (M.mRead_mem hf);obtain⟨L,hL⟩:∃L,M.mRead m=L:=⟨_,rfl⟩;rw[hL] at HRD hasc hln hwd2 ⊢;have HA:=hid hasc;have HLN:=hid hln;have HWD:=hid hwd2;have HN:=hid (fun w' (e:Ext w w')=>LNum.up hn e);have HNM:=hid hnm;have HXW:=hid hxw;show Calls Tryz.prog 45 #[.slice A m.length c,str nm,vv xs xg N nn nc] w _;rw[hmn];have HB:=hid (Box.new w #[.int .i64 xs,.bool xg,.slice N nn nc] 45);have EB:=hid (Ext.alloc w (.cells #[.int .i64 xs,.bool xg,.slice N nn nc] 45));clear h hn hlen hwd hnm hxw hasc hln hwd2 hL hmn;go_enter Tryz.func45,Tryz.ntmps45
 go_upto_region 1 with (fail)
 refine vwp_at (fun W=>Box W w.heap.size #[.int .i64 xs,.bool xg,.slice N nn nc] 45∧Ext w W) ⟨HB.out,EB.out⟩ ?_;clear HB EB;intro W ⟨hb0,he⟩;obtain⟨g0,hg0⟩:∃g,w.heap.size=g:=⟨_,rfl⟩;have HG:=hid hg0;rw[hg0] at hb0 ⊢;have HB:=hid hb0;have E:=hid he;clear hb0 he hg0;go_wp2_with fail
 refine(HRD.out _ E.out).mono ?_;rintro e w1 ⟨u,rfl,hu,hx⟩;replace hu:=hu.up hx;obtain⟨B,c2,rfl⟩:=hu.shape;obtain⟨n,hn⟩:∃n,L.length=n:=⟨_,rfl⟩;rw[hn] at hu ⊢;have hcc:=hu.le;have HU:=hid hu;have HPL:=hid (place_v (nm:=nm) hu HA.out (by have:=HLN.out;omega));have HLE:=hid hn;have hc2:n≤c2:=hcc.2.1;have HC2:=hid hc2;replace E:=hid (E.out.trans hx);replace HB:=hid (HB.out.up hx);clear hu hx HRD hcc hn hc2;go_wp2_with fail
 refine HPL.out.mono ?_;rintro e w2 ⟨k,b,rfl,hk1,hk2,hk3,hk4,hk5,hx⟩;replace E:=hid (E.out.trans hx);replace HB:=hid (HB.out.up hx);replace HU:=hid (HU.out.up hx);have hkn:k≤n:=by have:=HLE.out;omega
 have HK2:=hid hk2;have HK3:=hid hk3;have HK4:=hid hk4;have HK5:=hid hk5;clear hk1 hk2 hk3 hk4 hk5 hx HPL;obtain⟨A1,n1,c1,hA1⟩:∃A' n' c',Value.slice (if c2=k then B else B.map (·.add (k*7))) (n-k) (c2-k)=.slice A' n' c':=⟨_,_,_,rfl⟩;have hsl1:=fun w=>show (Instr.slice 101 (.slice B n c2) (some (.int .i64 (k:Int))) none none).run Tryz.prog w=.ok (.slice A1 n1 c1) w from hA1▸slice_fromF (k:=k) hkn w;have HF1:=hid (show FnList w2 (L.drop k) (.slice A1 n1 c1) from hA1▸HU.out.from_ hkn);obtain⟨A0,hA0⟩:∃a,(if c2=0 then B else B.map (·.add (0*7)))=a:=⟨_,rfl⟩;have HSL0:=hid (fun w=>show (Instr.slice 101 (.slice B n c2) none (some (.int .i64 (k:Int))) none).run Tryz.prog w=.ok (.slice A0 k c2) w from hA0▸slice_toF (k:=k) (by have:=HC2.out;omega) w);have HF0:=hid (show FnList w2 (L.take k) (.slice A0 k c2) from hA0▸HU.out.to_ hkn);have HN1:=hid (show n1=n-k by injection hA1 with _ h _;exact h.symm)
 -- what lies behind: without the one of that name,if it is there
 have HBE:=hid (show ∃Z,Z=(if b=true then L.drop (k+1) else L.drop k)∧M.mPut L (M.constF nm (xs,xg,xl))=L.take k++[M.constF nm (xs,xg,xl)]++Z from⟨_,rfl,by
  cases b
  ·rw[M.mPut_new (f:=M.constF nm (xs,xg,xl)) HK2.out HK3.out (by have:=HLE.out;omega) (HK5.out rfl)];simp
  ·obtain⟨f,hf,hfn⟩:=HK4.out rfl;rw[M.mPut_old (f:=M.constF nm (xs,xg,xl)) HA.out HK2.out HK3.out hf hfn];simp⟩)
 obtain⟨Z,hZ,hput⟩:=HBE.out;have HZ:=hid hZ;obtain⟨LL,hLL⟩:∃l,L.take k++[M.constF nm (xs,xg,xl)]++Z=l:=⟨_,rfl⟩;have HLL:=hid hLL;have HPT:=hid (hput.trans hLL);clear hA1 hA0 hZ hput HBE;have HLK:=hid (show b=true→k<n from fun h=>by
  obtain⟨f,hf,_⟩:=HK4.out h;have:=(List.getElem?_eq_some_iff.1 hf).1;rw[HLE.out] at this;exact this)
 have HWZ:=hid (show ∀f∈LL,M.funWd f from fun f hf=>by
  rw[←HLL.out,List.mem_append,List.mem_append] at hf;rcases hf with (hf|hf)|hf
  ·exact HWD.out f (List.mem_of_mem_take hf)
  ·obtain rfl:f=M.constF nm (xs,xg,xl):=by simpa using hf
   exact M.constF_wd HNM.out HXW.out
  ·rw[HZ.out] at hf
   split at hf<;>exact HWD.out f (List.mem_of_mem_drop hf))
 have HLZ:=hid (show LL.length≤100000 by
  have h1:Z.length≤L.length-k:=by rw[HZ.out];split<;>(rw[List.length_drop];omega)
  have h2:=HLN.out;have h3:(L.take k).length≤k:=by rw[List.length_take];exact Nat.min_le_left _ _
  have h4:=HLE.out;rw[←HLL.out,List.length_append,List.length_append,List.length_singleton];omega)
 clear hLL;go_upto_region 4 with (fail)
 clear hsl1
 -- the one list that lies behind
 have key:∀{a:Act} {Q:Exit→Act→World→Prop} {code:Code},code.wp Tryz.prog Q a w2→code.wp Tryz.prog Q a w2:=fun h=>h;have HBH:Hid (∃A3 n3 c3,FnList w2 Z (.slice A3 n3 c3)∧n3≤n∧(b=false→A3=A1∧n3=n1∧c3=c1)∧(b=true→∀w,(Instr.slice 101 (.slice A1 n1 c1) (some (.int .i64 1)) none none).run Tryz.prog w=.ok (.slice A3 n3 c3) w)):=hid (by
  cases b
  ·exact⟨A1,n1,c1,by rw[HZ.out];exact HF1.out,by have:=HN1.out;omega,fun _=>⟨rfl,rfl,rfl⟩,fun h=>by cases h⟩
  ·have h1:1≤n1:=by have:=HLK.out rfl;have:=HN1.out;omega
   obtain⟨A3,n3,c3,hA3⟩:∃A' n' c',Value.slice (if c1=1 then A1 else A1.map (·.add (1*7))) (n1-1) (c1-1)=.slice A' n' c':=⟨_,_,_,rfl⟩;refine⟨A3,n3,c3,?_,?_,fun h=>(by cases h),fun _ w=>hA3▸slice_fromF (k:=1) h1 w⟩
   ·rw[HZ.out];have h2:FnList w2 ((L.drop k).drop 1) (.slice A3 n3 c3):=hA3▸HF1.out.from_ (k:=1) h1;rw[List.drop_drop] at h2;exact h2
   ·injection hA3 with _ h3 _;have:=HN1.out;omega)
 obtain⟨A3,n3,c3,hf3,hn3,hb3,hs3⟩:=HBH.out;have HF3:=hid hf3;have HN3:=hid hn3;clear hf3 hn3 HBH key hkn;have rest:∀(s20 s21 s22 s23 s24 s25:Value),True:=fun _ _ _ _ _ _=>trivial;clear rest;cases b
 ·obtain⟨rfl,rfl,rfl⟩:=hb3 rfl;clear hb3 hs3;obtain⟨⟨b0,b1,b2⟩,-,-⟩:=box3v HB.out;go_upto_region 7 with (fail)
  refine vwp_at (fun W=>Box W w2.heap.size #[str nm,.slice none 0 0,.int .i64 xs,.slice none 0 0,.int .i64 xs,.bool xg,.slice N nn nc] 65∧Ext w2 W) ⟨Box.new w2 _ _,Ext.alloc w2 _⟩ ?_;clear b0 b1 b2;intro W2 ⟨hbx,he2⟩;obtain⟨g1,hg1⟩:∃g,w2.heap.size=g:=⟨_,rfl⟩;rw[hg1] at hbx ⊢;have HB1:=hid hbx;have E2:=hid he2;clear hbx he2 hg1;refine wp_region_D [(0,0),(1,0),(2,0),(3,0),(5,0),(4,1),(6,1),(7,1),(8,1),(9,0)] fun wd hb=>?_;replace E2:=hid (E2.out.trans hb);replace HB1:=hid (HB1.out.up hb);clear hb;refine WE.p 32 (.slice B n c2) ?_;simp only[pX];refine WE.p 33 (.int .i64 (k:Int)) ?_;simp only[pX];refine WE.q 34 (.slice A0 k c2) rfl (fun w' hk=>by have hs:=HSL0.out;go_simp) ?_;simp only[pX];refine WE.q 35 (fv nm none 0 0 xs none 0 0 xs xg N nn nc) rfl (fun w' hk=>by obtain⟨⟨x0,x1,x2,x3,x4,x5,x6⟩,-⟩:=box7v (HB1.out.up hk);go_simp) ?_;simp only[pX];refine WE.p 37 (.slice A3 n3 c3) ?_;simp only[pX];refine WE.act (d:=some 36) (v:=.slice (some ⟨wd.heap.size,0,none⟩) 1 1) (w':=wd.alloc (.cells #[str nm,.slice none 0 0,.int .i64 xs,.slice none 0 0,.int .i64 xs,.bool xg,.slice N nn nc] 65)) rfl rfl (by rfl) (by go_simp) (Ext.alloc _ _) ?_;have HR1:=hid (Box.new wd #[str nm,.slice none 0 0,.int .i64 xs,.slice none 0 0,.int .i64 xs,.bool xg,.slice N nn nc] 65);replace E2:=hid (E2.out.trans (Ext.alloc wd (.cells #[str nm,.slice none 0 0,.int .i64 xs,.slice none 0 0,.int .i64 xs,.bool xg,.slice N nn nc] 65)));obtain⟨w4,hw4⟩:∃w4,wd.alloc (.cells #[str nm,.slice none 0 0,.int .i64 xs,.slice none 0 0,.int .i64 xs,.bool xg,.slice N nn nc] 65)=w4:=⟨_,rfl⟩;rw[hw4] at HR1 E2 ⊢;obtain⟨g2,hg2⟩:∃g,wd.heap.size=g:=⟨_,rfl⟩;rw[hg2] at HR1 ⊢;clear hw4 hg2 HB1;simp only[pX];refine WE.act (d:=some 38) (v:=.slice (some ⟨w4.heap.size,0,none⟩) 3 3) (w':=w4.alloc (.cells #[.slice A0 k c2,.slice (some ⟨g2,0,none⟩) 1 1,.slice A3 n3 c3] 101)) rfl rfl (by rfl) (by go_simp) (Ext.alloc _ _) ?_;have HR2:=hid (Box.new w4 #[.slice A0 k c2,.slice (some ⟨g2,0,none⟩) 1 1,.slice A3 n3 c3] 101);have E4:=hid (Ext.alloc w4 (.cells #[.slice A0 k c2,.slice (some ⟨g2,0,none⟩) 1 1,.slice A3 n3 c3] 101));have E5:=hid (E2.out.trans E4.out);have HC:=hid (HLL.out▸concat_v (HF0.out.up E5.out) (constF_list (x:=(xs,xg,xl)) (HR1.out.up E4.out) (HN.out _ (E.out.trans E5.out))) (HF3.out.up E5.out) HR2.out (Nat.le_refl _) (by have:=HLN.out;have:=HLE.out;have:=HN3.out;have:=HF0.out.le.1;have h1:=HF0.out.le.1;rw[List.length_take] at h1;omega));simp only[pX];refine WE.c 39 (HC.out.mono ?_);rintro e w5 ⟨v5,rfl,hf5,hb⟩;refine⟨_,rfl,hb,?_⟩;have HMD:=hid (made_v hf5 HLZ.out HWZ.out);obtain⟨A5,c5,rfl⟩:=hf5.shape;have E6:=hid ((E.out.trans E5.out).trans hb);clear hb hf5 HC HR2 E4 HR1;simp only[pX];refine WE.c 40 (HMD.out.mono ?_);rintro e w6 ⟨v6,rfl,ho6,hb⟩;refine⟨_,rfl,hb,?_⟩;have hf6:=ho6.funs;obtain⟨A6,c6,rfl,-,-⟩:=ho6.shape;have HP:=hid (show FnList (gp (fun b=>w.heap.size≤b) w6) LL (.slice A6 LL.length c6)∧Ext w w6 from⟨hf6.sub (gp_low E6.out.size (Ext.refl _)),E6.out.trans hb⟩);obtain⟨m6,hm6⟩:∃m,LL.length=m:=⟨_,rfl⟩;rw[hm6] at HP;simp only[Act.put,pA,pB,pC,hm6];clear hb hf6 ho6 HMD hm6;refine WE.p 6 (.slice A6 m6 c6) ?_;simp only[pX];refine WE.done ?_;go_wp2;go_ret;exact⟨_,rfl,by rw[HPT.out];exact HP.out.1,HP.out.2⟩
 ·have HS3:=hid (hs3 rfl);clear hb3 hs3;go_upto_region 5 with (fail)
  refine wp_region_S [(0,0),(1,0),(2,0)] fun wd hb=>?_;replace E:=hid (E.out.trans hb);replace HB:=hid (HB.out.up hb);replace HF0:=hid (HF0.out.up hb);replace HF3:=hid (HF3.out.up hb);clear hb HU HF1;refine WE.p 24 (.slice A1 n1 c1) ?_;simp only[pX];refine WE.q 25 (.slice A3 n3 c3) rfl (fun w' hk=>vexec_from1 (.tmp 24) rfl rfl (HS3.out w')) ?_;simp only[pX];refine WE.p 10 (.slice A3 n3 c3) ?_;simp only[pX];refine WE.done ?_;clear HS3;obtain⟨⟨b0,b1,b2⟩,-,-⟩:=box3v HB.out;go_upto_region 7 with (fail)
  refine vwp_at (fun W=>Box W wd.heap.size #[str nm,.slice none 0 0,.int .i64 xs,.slice none 0 0,.int .i64 xs,.bool xg,.slice N nn nc] 65∧Ext wd W) ⟨Box.new wd _ _,Ext.alloc wd _⟩ ?_;clear b0 b1 b2;intro W2 ⟨hbx,he2⟩;obtain⟨g1,hg1⟩:∃g,wd.heap.size=g:=⟨_,rfl⟩;rw[hg1] at hbx ⊢;have HB1:=hid hbx;have E2:=hid he2;clear hbx he2 hg1;refine wp_region_D [(0,0),(1,0),(2,0),(3,0),(5,0),(4,1),(6,1),(7,1),(8,1),(9,0)] fun wd hb=>?_;replace E2:=hid (E2.out.trans hb);replace HB1:=hid (HB1.out.up hb);clear hb;refine WE.p 32 (.slice B n c2) ?_;simp only[pX];refine WE.p 33 (.int .i64 (k:Int)) ?_;simp only[pX];refine WE.q 34 (.slice A0 k c2) rfl (fun w' hk=>by have hs:=HSL0.out;go_simp) ?_;simp only[pX];refine WE.q 35 (fv nm none 0 0 xs none 0 0 xs xg N nn nc) rfl (fun w' hk=>by obtain⟨⟨x0,x1,x2,x3,x4,x5,x6⟩,-⟩:=box7v (HB1.out.up hk);go_simp) ?_;simp only[pX];refine WE.p 37 (.slice A3 n3 c3) ?_;simp only[pX];refine WE.act (d:=some 36) (v:=.slice (some ⟨wd.heap.size,0,none⟩) 1 1) (w':=wd.alloc (.cells #[str nm,.slice none 0 0,.int .i64 xs,.slice none 0 0,.int .i64 xs,.bool xg,.slice N nn nc] 65)) rfl rfl (by rfl) (by go_simp) (Ext.alloc _ _) ?_;have HR1:=hid (Box.new wd #[str nm,.slice none 0 0,.int .i64 xs,.slice none 0 0,.int .i64 xs,.bool xg,.slice N nn nc] 65);replace E2:=hid (E2.out.trans (Ext.alloc wd (.cells #[str nm,.slice none 0 0,.int .i64 xs,.slice none 0 0,.int .i64 xs,.bool xg,.slice N nn nc] 65)));obtain⟨w4,hw4⟩:∃w4,wd.alloc (.cells #[str nm,.slice none 0 0,.int .i64 xs,.slice none 0 0,.int .i64 xs,.bool xg,.slice N nn nc] 65)=w4:=⟨_,rfl⟩;rw[hw4] at HR1 E2 ⊢;obtain⟨g2,hg2⟩:∃g,wd.heap.size=g:=⟨_,rfl⟩;rw[hg2] at HR1 ⊢;clear hw4 hg2 HB1;simp only[pX];refine WE.act (d:=some 38) (v:=.slice (some ⟨w4.heap.size,0,none⟩) 3 3) (w':=w4.alloc (.cells #[.slice A0 k c2,.slice (some ⟨g2,0,none⟩) 1 1,.slice A3 n3 c3] 101)) rfl rfl (by rfl) (by go_simp) (Ext.alloc _ _) ?_;have HR2:=hid (Box.new w4 #[.slice A0 k c2,.slice (some ⟨g2,0,none⟩) 1 1,.slice A3 n3 c3] 101);have E4:=hid (Ext.alloc w4 (.cells #[.slice A0 k c2,.slice (some ⟨g2,0,none⟩) 1 1,.slice A3 n3 c3] 101));have E5:=hid (E2.out.trans E4.out);have HC:=hid (HLL.out▸concat_v (HF0.out.up E5.out) (constF_list (x:=(xs,xg,xl)) (HR1.out.up E4.out) (HN.out _ (E.out.trans E5.out))) (HF3.out.up E5.out) HR2.out (Nat.le_refl _) (by have:=HLN.out;have:=HLE.out;have:=HN3.out;have:=HF0.out.le.1;have h1:=HF0.out.le.1;rw[List.length_take] at h1;omega));simp only[pX];refine WE.c 39 (HC.out.mono ?_);rintro e w5 ⟨v5,rfl,hf5,hb⟩;refine⟨_,rfl,hb,?_⟩;have HMD:=hid (made_v hf5 HLZ.out HWZ.out);obtain⟨A5,c5,rfl⟩:=hf5.shape;have E6:=hid ((E.out.trans E5.out).trans hb);clear hb hf5 HC HR2 E4 HR1;simp only[pX];refine WE.c 40 (HMD.out.mono ?_);rintro e w6 ⟨v6,rfl,ho6,hb⟩;refine⟨_,rfl,hb,?_⟩;have hf6:=ho6.funs;obtain⟨A6,c6,rfl,-,-⟩:=ho6.shape;have HP:=hid (show FnList (gp (fun b=>w.heap.size≤b) w6) LL (.slice A6 LL.length c6)∧Ext w w6 from⟨hf6.sub (gp_low E6.out.size (Ext.refl _)),E6.out.trans hb⟩);obtain⟨m6,hm6⟩:∃m,LL.length=m:=⟨_,rfl⟩;rw[hm6] at HP;simp only[Act.put,pA,pB,pC,hm6];clear hb hf6 ho6 HMD hm6;refine WE.p 6 (.slice A6 m6 c6) ?_;simp only[pX];refine WE.done ?_;go_wp2;go_ret;exact⟨_,rfl,by rw[HPT.out];exact HP.out.1,HP.out.2⟩
end Go.Proofs.YtoenjbkmiphhoaaGreatDoor.Q
