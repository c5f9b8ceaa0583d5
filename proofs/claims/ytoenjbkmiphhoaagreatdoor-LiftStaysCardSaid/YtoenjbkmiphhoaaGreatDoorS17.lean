/-
  Layer 10, the reference: terms made.
-/
import Derived.Test.YtoenjbkmiphhoaaGreatDoorS16
import Derived.Maps.AppendAt
import Derived.Laws.Tables
import Derived.Deep.Cut
import Derived.Deep.Slices
namespace Go.Proofs.YtoenjbkmiphhoaaGreatDoor.Q
set_option linter.unusedSimpArgs false
set_option linter.unusedVariables false
open Go.RowKit
def Ints (w:World)(l:List Int)(v:Value): Prop:=∃A n c,v=.slice A n c∧n=l.length∧n≤c∧c≤maxLen∧(l≠[]→∃ad,A=some ad∧ad.block<w.heap.size∧∀k x,l[k]?=some x→w.cell? (ad.add k)=some (.int .i64 x))
theorem Ints.up {w w':World}{l:List Int}{v:Value}(h:Ints w l v)(e:Ext w w'): Ints w' l v:=by
 obtain⟨A,n,c,h1,h2,h3,h4,h5⟩:=h
 refine⟨A,n,c,h1,h2,h3,h4,fun hne=>?_⟩
 obtain⟨ad,ha,hb,hc⟩:=h5 hne
 exact⟨ad,ha,Nat.lt_of_lt_of_le hb e.size,fun k x hk=>e.cell (hc k x hk)⟩
theorem Ints.le {w:World}{A:Option Addr}{n c:Nat}{l:List Int}(h:Ints w l (.slice A n c)): n=l.length∧n≤c∧c≤9223372036854775807:=by
 obtain⟨A',n',c',e,h2,h3,h4,_⟩:=h
 injection e with e1 e2 e3
 subst e1 e2 e3
 exact⟨h2,h3,by unfold maxLen at h4;omega⟩
theorem Ints.shape {w:World}{l:List Int}{v:Value}(h:Ints w l v): ∃A c,v=.slice A l.length c:=by
 obtain⟨A,n,c,h1,h2,_⟩:=h
 exact⟨A,c,by rw[h1,h2]⟩
theorem Ints.get {w:World}{A:Option Addr}{n c:Nat}{l:List Int}(h:Ints w l (.slice A n c)){k:Nat}(hk:k<n): ∃ad x,A=some ad∧l[k]?=some x∧w.cell? (ad.add k)=some (.int .i64 x):=by
 obtain⟨A',n',c',e,h2,h3,h4,h5⟩:=h
 injection e with e1 e2 e3
 subst e1 e2 e3
 obtain⟨ad,ha,hb,hc⟩:=h5 (by intro e;subst e;simp at h2;omega)
 have hx:l[k]?=some l[k]:=List.getElem?_eq_getElem (by omega)
 exact⟨ad,_,ha,hx,hc k _ hx⟩
abbrev sgv (nm:List UInt8)(A:Option Addr)(n c:Nat)(r:Int): Value:=.agg #[str nm,.slice A n c,.int .i64 r]
def IsSg (w:World)(s:M.Sg)(v:Value): Prop:=∃A c,v=sgv s.name A s.args.length c s.ret∧Ints w s.args (.slice A s.args.length c)
theorem IsSg.up {w w':World}{s:M.Sg}{v:Value}(h:IsSg w s v)(e:Ext w w'): IsSg w' s v:=by
 obtain⟨A,c,h1,h2⟩:=h
 exact⟨A,c,h1,h2.up e⟩
def GivesT1 (w:World)(t:M.Tm)(e:Ending)(w':World): Prop:=∃v,e=.returned v∧IsTm w' t v∧Ext w w'
abbrev zero6:Array Value:=#[.int .i64 0,.bool false,.slice none 0 0,.string ⟨#[]⟩,.int .i64 0,.slice none 0 0]
theorem boxF6 {w:World}{k:Nat}{x0 x1 x2 x3 x4 x5:Value}{T:TypeId}(h:Box w k #[x0,x1,x2,x3,x4,x5] T): (w.cell? ⟨k,0,none⟩=some x0∧w.cell? ⟨k,1,none⟩=some x1∧w.cell? ⟨k,2,none⟩=some x2∧w.cell? ⟨k,3,none⟩=some x3∧w.cell? ⟨k,4,none⟩=some x4∧w.cell? ⟨k,5,none⟩=some x5) ∧
 (w.frozen? ⟨k,0,none⟩=false∧w.frozen? ⟨k,1,none⟩=false∧w.frozen? ⟨k,2,none⟩=false∧w.frozen? ⟨k,3,none⟩=false∧w.frozen? ⟨k,4,none⟩=false∧w.frozen? ⟨k,5,none⟩=false)∧k<w.heap.size:=
 ⟨⟨h.k 0,h.k 1,h.k 2,h.k 3,h.k 4,h.k 5⟩,⟨h.free 0,h.free 1,h.free 2,h.free 3,h.free 4,h.free 5⟩,h.lt⟩
abbrev put6 (w:World)(k:Nat)(x0 x1 x2 x3 x4 x5:Value): World:=(((((w.setCell ⟨k,0,none⟩ x0).setCell ⟨k,1,none⟩ x1).setCell ⟨k,2,none⟩ x2).setCell ⟨k,3,none⟩ x3).setCell ⟨k,4,none⟩ x4).setCell ⟨k,5,none⟩ x5
theorem put6_ext {w w1:World}{k:Nat}{x0 x1 x2 x3 x4 x5:Value}(e:Ext w w1)(hk:w.heap.size≤k): Ext w (put6 w1 k x0 x1 x2 x3 x4 x5):=(((((e.set' hk _).set' hk _).set' hk _).set' hk _).set' hk _).set' hk _
theorem box3 {w wN:World}{x0 x1 x2:Value}{T:TypeId}(h:Ext (w.alloc (.cells #[x0,x1,x2] T)) wN): wN.cell? ⟨w.heap.size,0,none⟩=some x0∧wN.cell? ⟨w.heap.size,1,none⟩=some x1∧wN.cell? ⟨w.heap.size,2,none⟩=some x2:=by
 have h1:=(Box.new w #[x0,x1,x2] T).up h
 exact⟨h1.k 0,h1.k 1,h1.k 2⟩
def M.knumT (Z:Int): M.Tm:=.mk 1 (decide (Z<0)) (M.limbs Z.natAbs) [] 2 []
set_option maxHeartbeats 8000000 in
theorem kIsSig_n {s:M.Sg}{v:Value}{w:World}(h:IsSg w s v)(hl:s.name.length≤1000000000000): Calls Tryz.prog 34 #[v] w (GivesB w (M.ksig s)):=by
 obtain⟨nm,ag,rt⟩:=s
 obtain⟨A,c,rfl,hi⟩:=h
 replace hi:Ints w ag (.slice A ag.length c):=hi
 show Calls Tryz.prog 34 #[sgv nm A ag.length c rt] w _
 obtain⟨hl1,hl2,hl3⟩:=hi.le
 obtain⟨n,hn'⟩:∃n,ag.length=n:=⟨_,rfl⟩
 obtain⟨sy,hsy⟩:∃s,M.isSym nm=s:=⟨_,rfl⟩
 have hz:M.ksig ⟨nm,ag,rt⟩=((ag.all fun a=>decide (a=1∨a=2))&&(sy&&(decide (n≤3)&&decide (rt=1∨rt=2)))):=by unfold M.ksig;rw[hsy,hn']
 obtain⟨z,hzz⟩:∃z,M.ksig ⟨nm,ag,rt⟩=z:=⟨_,rfl⟩
 rw[hzz]
 rw[hzz] at hz
 rw[hn'] at hi hl2 ⊢
 have HI:=hid hi
 have HN:=hid hn'
 have HZ:=hid hz
 have HY:=hid (show ∀w',Calls Tryz.prog 58 #[str nm] w' (GivesB w' sy) from fun w'=>(rSymbol_n nm hl w').mono fun e w2 h=>⟨by rw[h.1,hsy],h.2▸Ext.refl _⟩)
 clear hi hl1 hn' hz hsy hzz hl
 go_enter Tryz.func34,Tryz.ntmps34
 go_wp2_with fail
 go_loopw[3] (fun i wr=>∃(k:Nat),i=.int .i64 (k:Int)∧k≤n∧Hid ((ag.take k).all (fun a=>decide (a=1∨a=2))=true∧wr=w.alloc (.cells #[str nm,.slice A n c,.int .i64 rt] 62))) (fun i _=>n-(intOf i).toNat)
 case atStart=>exact⟨0,rfl,Nat.zero_le _,by simp,rfl⟩
 case round=>
  obtain⟨k,rfl,hk,hR⟩:=hrel
  have HS:=hid hR.out.1
  obtain rfl:=hR.out.2
  clear hR
  rcases Nat.lt_or_ge k n with hlt|hge
  ·have hlt':(k:Int)<(n:Int):=by omega
   obtain⟨ad,x,rfl,hx,hc0⟩:=HI.out.get hlt
   have c0:=fun o=>(Ext.alloc w o).cell hc0
   have HX:=hid hx
   clear hx hc0
   by_cases h1:x=1
   ·subst h1
    have HS2:=hid (show (ag.take (k+1)).all (fun a=>decide (a=1∨a=2))=true by rw[List.take_add_one,HX.out,List.all_append,HS.out];rfl)
    go_wp2_with fail
    go_roundw
    case rel=>exact⟨k+1,by simp,by omega,HS2.out,by trivial⟩
    case measure=>simp[intOf];omega
   by_cases h2:x=2
   ·subst h2
    have HS2:=hid (show (ag.take (k+1)).all (fun a=>decide (a=1∨a=2))=true by rw[List.take_add_one,HX.out,List.all_append,HS.out];rfl)
    clear h1
    go_wp2_with fail
    go_roundw
    case rel=>exact⟨k+1,by simp,by omega,HS2.out,by trivial⟩
    case measure=>simp[intOf];omega
   have hq1:(x != 1)=true:=by simpa using h1
   have hq2:(x != 2)=true:=by simpa using h2
   have HZ2:=hid (show false=z by
    rw[HZ.out,List.all_eq_false.2 ⟨x,List.mem_of_getElem? HX.out,by simp[h1,h2]⟩];rfl)
   clear h1 h2
   go_wp2_with fail
   go_ret
   obtain rfl:=HZ2.out
   exact⟨rfl,Ext.alloc _ _⟩
  ·obtain rfl:n=k:=by omega
   have hz2:z=(sy&&(decide (n≤3)&&decide (rt=1∨rt=2))):=by
    have h1:=HS.out
    rw[←HN.out,List.take_length] at h1
    rw[HZ.out,h1,Bool.true_and]
   cases sy
   ·have HZ2:=hid (show false=z by rw[hz2];rfl)
    clear hz2 hge hk
    go_wp2_with (go_at_call 58;refine(HY.out _).mono ?_;rintro e w' ⟨rfl,hx⟩;have E:=hid hx;obtain⟨r0,r1,r2⟩:=box3 hx;clear hx)
    go_ret
    obtain rfl:=HZ2.out
    exact⟨rfl,(Ext.alloc _ _).trans E.out⟩
   rw[Bool.true_and] at hz2
   by_cases hn3:n≤3
   case neg=>
    have HZ2:=hid (show false=z by rw[hz2,decide_eq_false hn3];rfl)
    have hq:decide ((n:Int)≤3)=false:=by simp;omega
    clear hz2 hge hk hn3
    go_wp2_with (go_at_call 58;refine(HY.out _).mono ?_;rintro e w' ⟨rfl,hx⟩;have E:=hid hx;obtain⟨r0,r1,r2⟩:=box3 hx;clear hx)
    go_ret
    obtain rfl:=HZ2.out
    exact⟨rfl,(Ext.alloc _ _).trans E.out⟩
   case pos=>
   rw[decide_eq_true hn3,Bool.true_and] at hz2
   have hq:(n:Int)≤3:=by omega
   by_cases h1:rt=1
   ·subst h1
    have HZ2:=hid (show true=z by rw[hz2];rfl)
    clear hz2 hge hk hn3
    go_wp2_with (go_at_call 58;refine(HY.out _).mono ?_;rintro e w' ⟨rfl,hx⟩;have E:=hid hx;obtain⟨r0,r1,r2⟩:=box3 hx;clear hx)
    go_ret
    obtain rfl:=HZ2.out
    exact⟨rfl,(Ext.alloc _ _).trans E.out⟩
   by_cases h2:rt=2
   ·subst h2
    have HZ2:=hid (show true=z by rw[hz2];rfl)
    clear hz2 hge hk hn3 h1
    go_wp2_with (go_at_call 58;refine(HY.out _).mono ?_;rintro e w' ⟨rfl,hx⟩;have E:=hid hx;obtain⟨r0,r1,r2⟩:=box3 hx;clear hx)
    go_ret
    obtain rfl:=HZ2.out
    exact⟨rfl,(Ext.alloc _ _).trans E.out⟩
   have HZ2:=hid (show false=z by rw[hz2,decide_eq_false (by omega)])
   have hq1:(rt==1)=false:=by simpa using h1
   have hq2:(rt==2)=false:=by simpa using h2
   clear hz2 hge hk hn3 h1 h2
   go_wp2_with (go_at_call 58;refine(HY.out _).mono ?_;rintro e w' ⟨rfl,hx⟩;have E:=hid hx;obtain⟨r0,r1,r2⟩:=box3 hx;clear hx)
   go_ret
   obtain rfl:=HZ2.out
   exact⟨rfl,(Ext.alloc _ _).trans E.out⟩
set_option linter.unusedSimpArgs false
set_option linter.unusedVariables false
open Go.RowKit
namespace M
end M
namespace M
end M
def SgAt (w:World)(s:M.Sg)(a:Addr): Prop:=∃A n c,(w.cell? a=some (str s.name)∧w.cell? (a.add 1)=some (.slice A n c)∧w.cell? (a.add 2)=some (.int .i64 s.ret))∧Ints w s.args (.slice A n c)
def Sgs (w:World)(l:List M.Sg)(v:Value): Prop:=∃A n c,v=.slice A n c∧n=l.length∧n≤c∧c≤maxLen∧(l≠[]→∃ad,A=some ad∧ad.block<w.heap.size∧∀k s,l[k]?=some s→SgAt w s (ad.add (k*3)))
theorem SgAt.up {w w':World}{s:M.Sg}{a:Addr}(h:SgAt w s a)(e:Ext w w'): SgAt w' s a:=by
 obtain⟨A,n,c,⟨h1,h2,h3⟩,h4⟩:=h
 exact⟨A,n,c,⟨e.cell h1,e.cell h2,e.cell h3⟩,h4.up e⟩
theorem Sgs.up {w w':World}{l:List M.Sg}{v:Value}(h:Sgs w l v)(e:Ext w w'): Sgs w' l v:=by
 obtain⟨A,n,c,h1,h2,h3,h4,h5⟩:=h
 refine⟨A,n,c,h1,h2,h3,h4,fun hne=>?_⟩
 obtain⟨ad,ha,hb,hc⟩:=h5 hne
 exact⟨ad,ha,Nat.lt_of_lt_of_le hb e.size,fun k s hk=>(hc k s hk).up e⟩
theorem Sgs.nil (w:World): Sgs w [] (.slice none 0 0):=⟨none,0,0,rfl,rfl,Nat.le_refl _,Nat.zero_le _,fun h=>absurd rfl h⟩
theorem Sgs.shape {w:World}{l:List M.Sg}{v:Value}(h:Sgs w l v): ∃A c,v=.slice A l.length c:=by
 obtain⟨A,n,c,h1,h2,_⟩:=h
 exact⟨A,c,by rw[h1,h2]⟩
theorem Sgs.le {w:World}{A:Option Addr}{n c:Nat}{l:List M.Sg}(h:Sgs w l (.slice A n c)): n=l.length∧n≤c∧c≤9223372036854775807:=by
 obtain⟨A',n',c',e,h2,h3,h4,_⟩:=h
 injection e with e1 e2 e3
 subst e1 e2 e3
 exact⟨h2,h3,by unfold maxLen at h4;omega⟩
theorem Sgs.get {w:World}{A:Option Addr}{n c:Nat}{l:List M.Sg}(h:Sgs w l (.slice A n c)){k:Nat}(hk:k<n):
 ∃ad s B d,A=some ad∧l[k]?=some s∧(w.cell? (ad.add (k*3))=some (str s.name)∧w.cell? ⟨(ad.add (k*3)).block,(ad.add (k*3)).off+1,none⟩=some (.slice B s.args.length d)∧w.cell? ⟨(ad.add (k*3)).block,(ad.add (k*3)).off+2,none⟩=some (.int .i64 s.ret))
  ∧ IsSg w s (sgv s.name B s.args.length d s.ret):=by
 obtain⟨A',n',c',e,h2,h3,h4,h5⟩:=h
 injection e with e1 e2 e3
 subst e1 e2 e3
 obtain⟨ad,ha,hb,hc⟩:=h5 (by intro e;subst e;simp at h2;omega)
 have hx:l[k]?=some l[k]:=List.getElem?_eq_getElem (by omega)
 obtain⟨B,m,d,⟨c0,c1,c2⟩,hi⟩:=hc k _ hx
 have hm:=hi.le.1
 subst hm
 exact⟨ad,_,B,d,ha,hx,⟨c0,c1,c2⟩,B,d,rfl,hi⟩
theorem kshape {w:World}{base:Nat}{e:TypeId}{size:Nat}{v:Value}{n:Nat}{xs:List Value}(h:w.ownsRow base e size v n xs): ∃A c,v=.slice A n c∧n≤c∧c≤maxLen:=by
 rcases h.2 with⟨rfl,rfl⟩|⟨g,cap',cur,rfl,h3,h4,h5,h6,_⟩
 ·exact⟨none,0,rfl,Nat.le_refl _,Nat.zero_le _⟩
 ·exact⟨_,_,rfl,h5,h6⟩
theorem kgrown {w w':World}{row:Option Nat}(h:w.grownBy w' row): Kept row.toList w w':=
 ⟨⟨h.os,h.tape,h.output,h.size,fun k hk=>absurd hk (Nat.not_lt_zero _)⟩,fun k hk hn=>h.block k hk fun e=>hn (by rw[←e];simp)⟩
theorem kexec_app {P:Program}{w w':World}{v u v':Value}{o:Oper}{a:Act}{t:TypeId}(s x:Operand)(ho:o.op=.call { callee:=.builtin .append,args:=#[s,x],argTypes:=#[t,t] })(hs:a.eval s=v)(hx:a.eval x=u)
 (h:(Builtin.append_ #[t,t] o.type #[v,u]).run P w=.ok v' w'):(execOp a.eval o).run P w=.ok (.value v') w':=by
 unfold execOp
 simp only[ho,resolve,invoke,builtin,Sem.run_bind,Sem.run_pure,Result.andThen_ok,List.map_toArray,List.map_cons,List.map_nil,hs,hx,h]
theorem kframe {w w':World}{base size n:Nat}{e:TypeId}{v:Value}{xs:List Value}(h:w.ownsRow base e size v n xs)(hb:∀b,base≤b→b<w.heap.size→w'.heap[b]?=w.heap[b]?): w'.ownsRow base e size v n xs:=by
 obtain⟨hl,h2⟩:=h
 refine⟨hl,h2.imp id ?_⟩
 rintro⟨g,cap,cur,h3,h4,h5,h6⟩
 exact⟨g,cap,cur,h3,h4,by rw[hb g h4 (Array.getElem?_eq_some_iff.1 h5).1];exact h5,h6⟩
theorem kown_base {w:World}{base size n:Nat}{e:TypeId}{v:Value}{xs:List Value}(h:w.ownsRow base e size v n xs){b:Nat}(hb:b∈v.ownBlock.toList): base≤b:=by
 simp at hb
 exact(World.ownsRow.lt h b hb).1
def OwnI (base:Nat)(w:World)(v:Value)(l:List Int): Prop:=w.ownsRow base 3 1 v l.length (l.map fun x:Int=>Value.int .i64 x)
theorem OwnI.nil (base:Nat)(w:World): OwnI base w (.slice none 0 0) []:=World.ownsRow_nil w base _ 1
theorem OwnI.frame {base:Nat}{w w':World}{v:Value}{l:List Int}(h:OwnI base w v l)(hb:∀b,base≤b→b<w.heap.size→w'.heap[b]?=w.heap[b]?): OwnI base w' v l:=kframe h hb
theorem OwnI.ints {base:Nat}{w:World}{v:Value}{l:List Int}(h:OwnI base w v l): Ints w l v:=by
 have hh:=h
 obtain⟨hl,h3⟩:=h
 rcases h3 with⟨rfl,h0⟩|⟨b,cap,cur,rfl,hb,hc,hc1,hm,_,_⟩
 ·obtain rfl:l=[]:=List.eq_nil_of_length_eq_zero h0
  exact⟨none,0,0,rfl,rfl,Nat.le_refl _,Nat.zero_le _,fun h=>absurd rfl h⟩
 ·refine⟨_,_,_,rfl,rfl,hc1,hm,fun hn=>⟨_,rfl,(Array.getElem?_eq_some_iff.1 hc).1,fun k x hk=>?_⟩⟩
  exact World.ownsRow.cells hh (g:=b) rfl _ _ (by rw[List.getElem?_map,hk];rfl)
theorem info_int8:(Tryz.prog.info? 3).map (fun i=>(i.zero,i.size,i.bytes))=some (some (.int .i64 0),1,8):=by kernel_rfl
theorem appI_run {base:Nat}{w:World}{v:Value}{l:List Int}{x:Int}{gL:Nat}{tL:TypeId}(h:OwnI base w v l)(hL:Box w gL #[.int .i64 x] tL)(hlen:l.length+1≤1000000000)(hbase:base≤w.heap.size)(ty:TypeId):
 ∃v' w',(Builtin.append_ #[60,60] ty #[v,.slice (some ⟨gL,0,none⟩) 1 1]).run Tryz.prog w=.ok v' w'∧OwnI base w' v' (l++[x])∧Below base w w'∧Kept v.ownBlock.toList w w':=by
 obtain⟨i0,hi,hz0,hz1,hz2⟩:=info_parts info_int8
 obtain⟨v',w',hrun,ho',hg,_,hv'⟩:=run_append_own_at (P:=Tryz.prog) w base 60 ty 3 i0 _ 1 8 Tryz.underlying60 hi hz0 hz1 hz2 rfl (by decide) v l.length _ h ⟨gL,0,none⟩ 1 1 [.int .i64 x] rfl (by
  intro j u hj
  rw[Addr.add_lit,Nat.zero_add]
  rcases j with _|j
  ·simp at hj;subst hj;exact hL.k 0
  ·simp at hj) (by intro u hu;simp at hu;subst hu;rfl) (by unfold maxLen;omega) (by omega) hbase
 exact⟨v',w',hrun,by unfold OwnI;rw[List.length_append,List.map_append];exact ho',(Below.refl _ _).grown hg hbase fun k hk=>(World.ownsRow.lt h k hk).1,kgrown hg⟩
namespace M
def sigOf (t:Tm): Sg:=⟨t.name,t.kids.map Tm.sort,t.sort⟩
end M
def GivesSg (w:World)(s:M.Sg)(e:Ending)(w':World): Prop:=∃A c,e=.returned (sgv s.name A s.args.length c s.ret)∧Ints w' s.args (.slice A s.args.length c)∧Ext w w'
theorem box3b {w:World}{k:Nat}{x0 x1 x2:Value}{T:TypeId}(h:Box w k #[x0,x1,x2] T): w.cell? ⟨k,0,none⟩=some x0∧w.cell? ⟨k,1,none⟩=some x1∧w.cell? ⟨k,2,none⟩=some x2:=⟨h.k 0,h.k 1,h.k 2⟩
theorem free3 {w:World}{k:Nat}{x0 x1 x2:Value}{T:TypeId}(h:Box w k #[x0,x1,x2] T): w.frozen? ⟨k,0,none⟩=false∧w.frozen? ⟨k,1,none⟩=false∧w.frozen? ⟨k,2,none⟩=false:=⟨h.free 0,h.free 1,h.free 2⟩
open Go.RowKit
set_option linter.unusedSimpArgs false
set_option linter.unusedVariables false
theorem Ext.keeps {w w':World}(h:Ext w w'): Keeps w w':=fun _ _ hn=>Num.keep hn h h.size
def VAt (w:World)(ad:Addr)(k:Nat)(x:Int×Bool×List Nat): Prop:=
 ∃A n c,w.cell? (ad.add (k*3))=some (.int .i64 x.1)∧w.cell? ((ad.add (k*3)).add 1)=some (.bool x.2.1)∧w.cell? ((ad.add (k*3)).add 2)=some (.slice A n c)∧Num w w.heap.size (.slice A n c) x.2.2
def VList (w:World)(v:Value)(ls:List (Int×Bool×List Nat)): Prop:=
 ∃A n c,v=.slice A n c∧n=ls.length∧n≤c∧c≤maxLen∧∀k x,ls[k]?=some x→∃ad,A=some ad∧ad.block<w.heap.size∧VAt w ad k x
theorem VAt.up {w w':World}{ad:Addr}{k:Nat}{x:Int×Bool×List Nat}(h:VAt w ad k x)(e:Ext w w')(hb:ad.block<w.heap.size): VAt w' ad k x:=by
 obtain⟨A,n,c,h0,h1,h2,h3⟩:=h
 exact⟨A,n,c,by rw[e.below.cell (by rw[addr_block];exact hb)];exact h0,by rw[e.below.cell (by rw[addr_block,addr_block];exact hb)];exact h1,by rw[e.below.cell (by rw[addr_block,addr_block];exact hb)];exact h2,h3.up e⟩
theorem VList.up {w w':World}{v:Value}{ls:List (Int×Bool×List Nat)}(h:VList w v ls)(e:Ext w w'): VList w' v ls:=by
 obtain⟨A,n,c,h1,h2,h3,h4,h5⟩:=h
 refine⟨A,n,c,h1,h2,h3,h4,fun k x hx=>?_⟩
 obtain⟨ad,ha,hb,hz⟩:=h5 k x hx
 exact⟨ad,ha,Nat.lt_of_lt_of_le hb e.size,hz.up e hb⟩
theorem VList.shape {w:World}{v:Value}{ls:List (Int×Bool×List Nat)}(h:VList w v ls): ∃A n c,v=.slice A n c:=by
 obtain⟨A,n,c,h,_⟩:=h;exact⟨A,n,c,h⟩
theorem VList.count {w:World}{A:Option Addr}{n c:Nat}{ls:List (Int×Bool×List Nat)}(h:VList w (.slice A n c) ls): n=ls.length∧n≤c∧n≤9223372036854775807:=by
 obtain⟨A',n',c',e,hn,hc,hm,_⟩:=h
 injection e with e1 e2 e3
 unfold maxLen at hm
 exact⟨by omega,by omega,by omega⟩
theorem VList.get {w:World}{A:Option Addr}{n c:Nat}{ls:List (Int×Bool×List Nat)}(h:VList w (.slice A n c) ls){k:Nat}{x:Int×Bool×List Nat}(hk:ls[k]?=some x):
 ∃ad A' n' c',A=some ad∧CellAt w (ad.add (k*3)) (.int .i64 x.1)∧CellAt w ((ad.add (k*3)).add 1) (.bool x.2.1)∧CellAt w ((ad.add (k*3)).add 2) (.slice A' n' c')∧Num w w.heap.size (.slice A' n' c') x.2.2:=by
 obtain⟨A',n',c',e,hn,hc,hm,hz⟩:=h
 injection e with e1 e2 e3
 subst e1
 obtain⟨ad,ha,_,B,p,q,h0,h1,h2,h3⟩:=hz k x hk
 exact⟨ad,B,p,q,ha,h0,h1,h2,h3⟩
theorem VList.nil (w:World)(c:Nat)(hc:c≤maxLen)(A:Option Addr): VList w (.slice A 0 c) []:=⟨A,0,c,rfl,rfl,Nat.zero_le _,hc,fun k x hx=>by simp at hx⟩
def VCell (w:World)(cur:Array Value)(k:Nat)(x:Int×Bool×List Nat): Prop:=
 ∃A n c,cur[k*3]?=some (.int .i64 x.1)∧cur[k*3+1]?=some (.bool x.2.1)∧cur[k*3+2]?=some (.slice A n c)∧Num w w.heap.size (.slice A n c) x.2.2
def VOwn (base:Nat)(w:World)(v:Value)(ls:List (Int×Bool×List Nat)): Prop:=
 (v=.slice none 0 0∧ls=[])∨∃g cap cur,v=.slice (some ⟨g,0,none⟩) ls.length cap∧base≤g∧Box w g cur 45∧ls.length≤cap∧cap≤maxLen∧cur.size=cap*3∧noLimb cur=true∧∀k x,ls[k]?=some x→VCell w cur k x
theorem VOwn.list {base:Nat}{w:World}{v:Value}{ls:List (Int×Bool×List Nat)}(h:VOwn base w v ls): VList w v ls:=by
 rcases h with⟨rfl,rfl⟩|⟨g,cap,cur,rfl,hb,hbox,hc,hm,hs,hno,hz⟩
 ·exact VList.nil _ _ (Nat.zero_le _) _
 ·refine⟨_,_,_,rfl,rfl,hc,hm,fun k x hk=>⟨_,rfl,hbox.lt,?_⟩⟩
  obtain⟨A,n,c,h0,h1,h2,h3⟩:=hz k x hk
  refine⟨A,n,c,?_,?_,?_,h3⟩
  ·rw[Addr.add_lit,Nat.zero_add];exact hbox.cell h0
  ·rw[Addr.add_lit,Addr.add_lit,Nat.zero_add];exact hbox.cell h1
  ·rw[Addr.add_lit,Addr.add_lit,Nat.zero_add];exact hbox.cell h2
theorem VCell.kz {w w':World}{cur:Array Value}{k:Nat}{x:Int×Bool×List Nat}(h:VCell w cur k x)(e:Keeps w w'): VCell w' cur k x:=by
 obtain⟨A,n,c,h0,h1,h2,h3⟩:=h
 exact⟨A,n,c,h0,h1,h2,e _ _ h3⟩
theorem VOwn.up {base:Nat}{w w':World}{v:Value}{ls:List (Int×Bool×List Nat)}(h:VOwn base w v ls)(e:Ext w w'): VOwn base w' v ls:=by
 rcases h with⟨rfl,rfl⟩|⟨g,cap,cur,rfl,hb,hbox,hc,hm,hs,hno,hz⟩
 ·exact .inl ⟨rfl,rfl⟩
 ·exact .inr ⟨g,cap,cur,rfl,hb,hbox.up e,hc,hm,hs,hno,fun k x hk=>(hz k x hk).kz e.keeps⟩
theorem VOwn.nil (base:Nat)(w:World): VOwn base w (.slice none 0 0) []:=.inl ⟨rfl,rfl⟩
theorem info_Value:(Tryz.prog.info? 45).map (fun i=>(i.zero,i.size,i.bytes))=some (some (.agg #[.int .i64 0,.bool false,.slice none 0 0]),3,40):=by kernel_rfl
theorem noLimb_appendL {x y:Array Value}(hx:noLimb x=true)(hy:noLimb y=true): noLimb (x++y)=true:=by
 unfold noLimb at *
 rw[Array.toList_append,List.all_append,hx,hy];rfl
theorem noLimb_zerosL (n:Nat): noLimb (Builtin.zeroCells (Value.agg #[.int .i64 0,.bool false,.slice none 0 0]).cells n)=true:=by
 unfold noLimb
 rw[List.all_eq_true]
 intro v hv
 have hz:(Value.agg #[.int .i64 0,.bool false,.slice none 0 0]).cells=#[.int .i64 0,.bool false,.slice none 0 0]:=rfl
 rw[hz] at hv
 simp[Builtin.zeroCells] at hv
 obtain⟨i,_,rfl⟩:=hv
 rcases (show i%3=0∨i%3=1∨i%3=2 by omega) with e|e|e<;>rw[e]<;>rfl
theorem noLimb_takeL {x:Array Value}(hx:noLimb x=true)(k:Nat): noLimb (x.toList.take k).toArray=true:=by
 unfold noLimb at *
 rw[List.all_eq_true] at *
 intro v hv
 exact hx v (List.mem_of_mem_take (by simpa using hv))
theorem noLimb_dropL {x:Array Value}(hx:noLimb x=true)(k:Nat): noLimb (x.toList.drop k).toArray=true:=by
 unfold noLimb at *
 rw[List.all_eq_true] at *
 intro v hv
 exact hx v (List.mem_of_mem_drop (by simpa using hv))
theorem noLimb_litL (V:Int)(b:Bool)(A:Option Addr)(n c:Nat): noLimb #[.int .i64 V,.bool b,.slice A n c]=true:=rfl
theorem kept_rowL {w:World}{g:Nat}(cs:Array Value): Kept [g] w (w.setRow g cs):=by
 refine⟨⟨rfl,rfl,rfl,by simp[World.setRow],fun k hk=>absurd hk (Nat.not_lt_zero _)⟩,fun k _ hx=>?_⟩
 have hne:g≠k:=by simp at hx;omega
 unfold World.setRow
 simp only
 rw[Array.getElem?_modify,if_neg hne]
theorem lcell_app {w:World}{cur CS:Array Value}{ls:List (Int×Bool×List Nat)}{V:Int}{b:Bool}{A:Option Addr}{n c:Nat}{l:List Nat}{rest:List Value}(hs:ls.length*3≤cur.size)
 (hCS:CS.toList=cur.toList.take (ls.length*3)++(.int .i64 V::.bool b::.slice A n c::rest)) (hz:∀k x,ls[k]?=some x→VCell w cur k x) (hm:Num w w.heap.size (.slice A n c) l) :
 ∀k x,(ls++[(V,b,l)])[k]?=some x→VCell w CS k x:=by
 intro k x hk
 have hget:∀i,CS[i]?=CS.toList[i]?:=fun i=>Array.getElem?_toList.symm
 have hlt:(cur.toList.take (ls.length*3)).length=ls.length*3:=by
  have e:cur.toList.length=cur.size:=Array.length_toList
  rw[List.length_take,e];omega
 rcases Nat.lt_or_ge k ls.length with h|h
 ·rw[List.getElem?_append_left h] at hk
  obtain⟨A',n',c',h0,h1,h2,h3⟩:=hz k x hk
  refine⟨A',n',c',?_,?_,?_,h3⟩
  ·rw[hget,hCS,List.getElem?_append_left (by rw[hlt];omega),List.getElem?_take,if_pos (by omega),Array.getElem?_toList];exact h0
  ·rw[hget,hCS,List.getElem?_append_left (by rw[hlt];omega),List.getElem?_take,if_pos (by omega),Array.getElem?_toList];exact h1
  ·rw[hget,hCS,List.getElem?_append_left (by rw[hlt];omega),List.getElem?_take,if_pos (by omega),Array.getElem?_toList];exact h2
 ·rw[List.getElem?_append_right h] at hk
  have hk0:k=ls.length:=by
   rcases Nat.eq_zero_or_pos (k-ls.length) with e|e
   ·omega
   ·rw[List.getElem?_eq_none (by simp;omega)] at hk;cases hk
  subst hk0
  simp at hk
  subst hk
  refine⟨A,n,c,?_,?_,?_,hm⟩
  ·rw[hget,hCS,List.getElem?_append_right (by rw[hlt];omega),hlt,Nat.sub_self];rfl
  ·rw[hget,hCS,List.getElem?_append_right (by rw[hlt];omega),hlt,show ls.length*3+1-ls.length*3=1 by omega];rfl
  ·rw[hget,hCS,List.getElem?_append_right (by rw[hlt];omega),hlt,show ls.length*3+2-ls.length*3=2 by omega];rfl
def ownBlk (base:Nat)(v:Value): Nat:=match v with | .slice (some ad) _ _=>ad.block|_=>base
theorem VOwn.blk {base:Nat}{w:World}{v:Value}{ls:List (Int×Bool×List Nat)}(h:VOwn base w v ls): base≤ownBlk base v:=by
 rcases h with⟨rfl,rfl⟩|⟨g,cap,cur,rfl,hb,_⟩
 ·exact Nat.le_refl _
 ·exact hb
theorem VOwn.kept {base g':Nat}{w w':World}{v:Value}{ls:List (Int×Bool×List Nat)}(h:VOwn base w v ls)(hk:Kept [g'] w w')(hs:Keeps w w')(hg:g'<base): VOwn base w' v ls:=by
 rcases h with⟨rfl,rfl⟩|⟨g,cap,cur,rfl,hb,hbox,hc,hm,hz,hno,hl⟩
 ·exact .inl ⟨rfl,rfl⟩
 ·exact .inr ⟨g,cap,cur,rfl,hb,hbox.kept hk (by simp;omega),hc,hm,hz,hno,fun k x hx=>(hl k x hx).kz hs⟩
theorem appV_run {base:Nat}{w:World}{v:Value}{ls:List (Int×Bool×List Nat)}{V:Int}{b:Bool}{A:Option Addr}{n c:Nat}{l:List Nat}{gL:Nat}{tL:TypeId}(h:VOwn base w v ls)(hL:Box w gL #[.int .i64 V,.bool b,.slice A n c] tL)
 (hm:Num w w.heap.size (.slice A n c) l) (hlen:ls.length+1≤1000000) (hbase:base≤w.heap.size) (ty:TypeId) :
 ∃v' w',(Builtin.append_ #[67,67] ty #[v,.slice (some ⟨gL,0,none⟩) 1 1]).run Tryz.prog w=.ok v' w'∧VOwn base w' v' (ls++[(V,b,l)])∧Kept [ownBlk base v] w w'∧Keeps w w':=by
 obtain⟨i0,hi,hz0,hz1,hz2⟩:=info_parts info_Value
 have hnews:∀j u,[Value.int .i64 V,.bool b,.slice A n c][j]?=some u→w.cell? ((⟨gL,0,none⟩:Addr).add j)=some u:=by
  intro j u hj
  rw[Addr.add_lit,Nat.zero_add]
  rcases j with _|_|_|j
  ·simp at hj;subst hj;exact hL.cell rfl
  ·simp at hj;subst hj;exact hL.cell rfl
  ·simp at hj;subst hj;exact hL.cell rfl
  ·simp at hj
 have hl:[Value.int .i64 V,Value.bool b,Value.slice A n c].length=1*i0.size:=by rw[hz1];rfl
 have h1:∀u∈[Value.int .i64 V,Value.bool b,Value.slice A n c],u.oneCell'=true:=by
  intro u hu;simp at hu;rcases hu with rfl|rfl|rfl<;>rfl
 have hcm:∀old,grownCap w (ls.length+1) old 45≤maxLen:=fun old=>grownCap_le_maxLen w _ old _ (by unfold maxLen;omega)
 have hge:∀old,ls.length+1≤grownCap w (ls.length+1) old 45:=fun old=>grownCap_ge w _ old _
 have hll:(ls++[(V,b,l)]).length=ls.length+1:=by simp
 rcases h with⟨rfl,rfl⟩|⟨g,cap,cur,rfl,hb,hbox,hc,hmx,hs,hno,hz⟩
 ·have hr:=run_append_nil (P:=Tryz.prog) w 67 ty 45 i0 _ Tryz.underlying67 hi hz0 ⟨gL,0,none⟩ 1 1 _ hl hnews (by omega) (by omega) (by rw[hz2];omega)
  have hE:Ext w (w.drew.alloc (.cells ([Value.int .i64 V,Value.bool b,Value.slice A n c].toArray++Builtin.zeroCells (Value.agg #[.int .i64 0,.bool false,.slice none 0 0]).cells (grownCap w 1 0 45-1)) 45)):=((Ext.refl w).drew').alloc' _
  refine⟨_,_,hr,.inr ⟨w.heap.size,_,_,rfl,hbase,Box.new w.drew _ _,hge 0,hcm 0,?_,noLimb_appendL (noLimb_litL _ _ _ _ _) (noLimb_zerosL _),?_⟩,hE.kept _,hE.keeps⟩
  ·rw[Array.size_append,size_zeroCells]
   have:=hge 0
   simp[Value.cells] at this ⊢
   omega
  ·intro k x hk
   exact(lcell_app (w:=w) (cur:=#[]) (ls:=[]) (by simp) (by simp;rfl) (by simp) hm k x hk).kz hE.keeps
 ·have hsz:ls.length*3≤cur.size:=by rw[hs];omega
  rcases Nat.lt_or_ge cap (ls.length+1) with hcap|hcap
  ·have hr:=run_append_grow (P:=Tryz.prog) w 67 ty 45 i0 _ Tryz.underlying67 hi hz0 ⟨g,0,none⟩ ls.length cap (cur.toList.take (ls.length*3)) (by have e:cur.toList.length=cur.size:=Array.length_toList;rw[List.length_take,e,hz1];omega)
    (fun j u hj=>by
     rw[Addr.add_lit,Nat.zero_add]
     rw[List.getElem?_take] at hj
     split at hj
     ·exact hbox.cell (by rw[←Array.getElem?_toList];exact hj)
     ·cases hj) ⟨gL,0,none⟩ 1 1 _ hl hnews hcap (by omega) (growslice_fits hcap (by rw[hz2];omega))
   have hE:∀cs,Ext w (w.drew.alloc (.cells cs 45)):=fun cs=>((Ext.refl w).drew').alloc' _
   refine⟨_,_,hr,.inr ⟨w.heap.size,_,_,by rw[hll],hbase,Box.new w.drew _ _,by rw[hll];exact hge cap,hcm cap,?_,noLimb_appendL (noLimb_appendL (noLimb_takeL hno _) (noLimb_litL _ _ _ _ _)) (noLimb_zerosL _),?_⟩,(hE _).kept _,(hE _).keeps⟩
   ·rw[Array.size_append,Array.size_append,size_zeroCells]
    have:=hge cap
    simp[Value.cells,List.length_take] at this ⊢
    omega
   ·intro k x hk
    exact(lcell_app (w:=w) (cur:=cur) (ls:=ls) hsz (by simp;rfl) hz hm k x hk).kz (hE _).keeps
  ·have hr:=run_append_room (P:=Tryz.prog) w 67 ty 45 i0 Tryz.underlying67 hi g ls.length cap cur hbox ⟨gL,0,none⟩ 1 1 _ hl hnews h1 hcap (by rw[hz1,hs];simp;omega)
   rw[hz1] at hr
   have hk:=kept_rowL (w:=w) (g:=g) (cur.toList.take (ls.length*3)++[Value.int .i64 V,Value.bool b,Value.slice A n c]++cur.toList.drop (ls.length*3+[Value.int .i64 V,Value.bool b,Value.slice A n c].length)).toArray
   have hkeep:=keeps_store hbox hno hk
   refine⟨_,_,hr,.inr ⟨g,cap,_,by rw[hll],hb,setRow_heap w g cur _ _ _ hbox,by rw[hll];exact hcap,hmx,?_,?_,?_⟩,hk,hkeep⟩
   ·simp[List.length_take,List.length_drop,hs];omega
   ·have:=noLimb_appendL (noLimb_appendL (noLimb_takeL hno (ls.length*3)) (noLimb_litL V b A n c)) (noLimb_dropL hno (ls.length*3+3))
    simpa using this
   ·intro k x hk'
    exact(lcell_app (w:=w) (cur:=cur) (ls:=ls) hsz (by simp;rfl) hz hm k x hk').kz hkeep
end Go.Proofs.YtoenjbkmiphhoaaGreatDoor.Q
