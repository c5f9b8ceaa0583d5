/-
  Layer 10, the reference: terms made.
-/
import Derived.Test.YtoenjbkmiphhoaaGreatDoorA17
import Derived.Maps.AppendAt
namespace Go.Proofs.YtoenjbkmiphhoaaGreatDoor.Q
set_option linter.unusedSimpArgs false
set_option linter.unusedVariables false
open Go.RowKit
def Ints (w:World)(l:List Int)(v:Value): Prop:=∃A n c,v=.slice A n c∧n=l.length∧n≤c∧c≤maxLen∧(l≠[]→∃ad,A=some ad∧ad.block<w.heap.size∧∀k x,l[k]?=some x→w.cell? (ad.add k)=some (.int .i64 x))
theorem Ints.up {w w':World}{l:List Int}{v:Value}(h:Ints w l v)(e:Ext w w'): Ints w' l v:=by
 obtain⟨A,n,c,h1,h2,h3,h4,h5⟩:=h;refine⟨A,n,c,h1,h2,h3,h4,fun hne=>?_⟩;obtain⟨ad,ha,hb,hc⟩:=h5 hne;exact⟨ad,ha,Nat.lt_of_lt_of_le hb e.size,fun k x hk=>e.cell (hc k x hk)⟩
theorem Ints.le {w:World}{A:Option Addr}{n c:Nat}{l:List Int}(h:Ints w l (.slice A n c)): n=l.length∧n≤c∧c≤9223372036854775807:=by
 obtain⟨A',n',c',e,h2,h3,h4,_⟩:=h;injection e with e1 e2 e3;subst e1 e2 e3;exact⟨h2,h3,by unfold maxLen at h4;omega⟩
theorem Ints.shape {w:World}{l:List Int}{v:Value}(h:Ints w l v): ∃A c,v=.slice A l.length c:=by
 obtain⟨A,n,c,h1,h2,_⟩:=h;exact⟨A,c,by rw[h1,h2]⟩
theorem Ints.get {w:World}{A:Option Addr}{n c:Nat}{l:List Int}(h:Ints w l (.slice A n c)){k:Nat}(hk:k<n): ∃ad x,A=some ad∧l[k]?=some x∧w.cell? (ad.add k)=some (.int .i64 x):=by
 obtain⟨A',n',c',e,h2,h3,h4,h5⟩:=h;injection e with e1 e2 e3;subst e1 e2 e3;obtain⟨ad,ha,hb,hc⟩:=h5 (by intro e;subst e;simp at h2;omega);have hx:l[k]?=some l[k]:=List.getElem?_eq_getElem (by omega);exact⟨ad,_,ha,hx,hc k _ hx⟩
abbrev sgv (nm:List UInt8)(A:Option Addr)(n c:Nat)(r:Int): Value:=.agg #[str nm,.slice A n c,.int .i64 r]
def IsSg (w:World)(s:M.Sg)(v:Value): Prop:=∃A c,v=sgv s.name A s.args.length c s.ret∧Ints w s.args (.slice A s.args.length c)
theorem IsSg.up {w w':World}{s:M.Sg}{v:Value}(h:IsSg w s v)(e:Ext w w'): IsSg w' s v:=by
 obtain⟨A,c,h1,h2⟩:=h;exact⟨A,c,h1,h2.up e⟩
def GivesT1 (w:World)(t:M.Tm)(e:Ending)(w':World): Prop:=∃v,e=.returned v∧IsTm w' t v∧Ext w w'
abbrev zero6:Array Value:=#[.int .i64 0,.bool false,.slice none 0 0,.string ⟨#[]⟩,.int .i64 0,.slice none 0 0]
theorem boxF6 {w:World}{k:Nat}{x0 x1 x2 x3 x4 x5:Value}{T:TypeId}(h:Box w k #[x0,x1,x2,x3,x4,x5] T): (w.cell? ⟨k,0,none⟩=some x0∧w.cell? ⟨k,1,none⟩=some x1∧w.cell? ⟨k,2,none⟩=some x2∧w.cell? ⟨k,3,none⟩=some x3∧w.cell? ⟨k,4,none⟩=some x4∧w.cell? ⟨k,5,none⟩=some x5) ∧
 (w.frozen? ⟨k,0,none⟩=false∧w.frozen? ⟨k,1,none⟩=false∧w.frozen? ⟨k,2,none⟩=false∧w.frozen? ⟨k,3,none⟩=false∧w.frozen? ⟨k,4,none⟩=false∧w.frozen? ⟨k,5,none⟩=false)∧k<w.heap.size:=
 ⟨⟨h.k 0,h.k 1,h.k 2,h.k 3,h.k 4,h.k 5⟩,⟨h.free 0,h.free 1,h.free 2,h.free 3,h.free 4,h.free 5⟩,h.lt⟩
abbrev put6 (w:World)(k:Nat)(x0 x1 x2 x3 x4 x5:Value): World:=(((((w.setCell ⟨k,0,none⟩ x0).setCell ⟨k,1,none⟩ x1).setCell ⟨k,2,none⟩ x2).setCell ⟨k,3,none⟩ x3).setCell ⟨k,4,none⟩ x4).setCell ⟨k,5,none⟩ x5
theorem put6_ext {w w1:World}{k:Nat}{x0 x1 x2 x3 x4 x5:Value}(e:Ext w w1)(hk:w.heap.size≤k): Ext w (put6 w1 k x0 x1 x2 x3 x4 x5):=(((((e.set' hk _).set' hk _).set' hk _).set' hk _).set' hk _).set' hk _
theorem box3 {w wN:World}{x0 x1 x2:Value}{T:TypeId}(h:Ext (w.alloc (.cells #[x0,x1,x2] T)) wN): wN.cell? ⟨w.heap.size,0,none⟩=some x0∧wN.cell? ⟨w.heap.size,1,none⟩=some x1∧wN.cell? ⟨w.heap.size,2,none⟩=some x2:=by
 have h1:=(Box.new w #[x0,x1,x2] T).up h;exact⟨h1.k 0,h1.k 1,h1.k 2⟩
def M.knumT (Z:Int): M.Tm:=.mk 1 (decide (Z<0)) (M.limbs Z.natAbs) [] 2 []
set_option maxHeartbeats 8000000 in
theorem kIsSig_n {s:M.Sg}{v:Value}{w:World}(h:IsSg w s v)(hl:s.name.length≤1000000000000): Calls Tryz.prog 34 #[v] w (GivesB w (M.ksig s)):=by
 obtain⟨nm,ag,rt⟩:=s;obtain⟨A,c,rfl,hi⟩:=h;replace hi:Ints w ag (.slice A ag.length c):=hi;show Calls Tryz.prog 34 #[sgv nm A ag.length c rt] w _;obtain⟨hl1,hl2,hl3⟩:=hi.le;obtain⟨n,hn'⟩:∃n,ag.length=n:=⟨_,rfl⟩;obtain⟨sy,hsy⟩:∃s,M.isSym nm=s:=⟨_,rfl⟩;have hz:M.ksig ⟨nm,ag,rt⟩=((ag.all fun a=>decide (a=1∨a=2))&&(sy&&(decide (n≤3)&&decide (rt=1∨rt=2)))):=by unfold M.ksig;rw[hsy,hn']
 obtain⟨z,hzz⟩:∃z,M.ksig ⟨nm,ag,rt⟩=z:=⟨_,rfl⟩;rw[hzz];rw[hzz] at hz;rw[hn'] at hi hl2 ⊢;have HI:=hid hi;have HN:=hid hn';have HZ:=hid hz;have HY:=hid (show ∀w',Calls Tryz.prog 58 #[str nm] w' (GivesB w' sy) from fun w'=>(rSymbol_n nm hl w').mono fun e w2 h=>⟨by rw[h.1,hsy],h.2▸Ext.refl _⟩);clear hi hl1 hn' hz hsy hzz hl;go_enter Tryz.func34,Tryz.ntmps34
 go_wp2_with fail
 go_loopw[3] (fun i wr=>∃(k:Nat),i=.int .i64 (k:Int)∧k≤n∧Hid ((ag.take k).all (fun a=>decide (a=1∨a=2))=true∧wr=w.alloc (.cells #[str nm,.slice A n c,.int .i64 rt] 62))) (fun i _=>n-(intOf i).toNat)
 case atStart=>exact⟨0,rfl,Nat.zero_le _,by simp,rfl⟩
 case round=>
  obtain⟨k,rfl,hk,hR⟩:=hrel;have HS:=hid hR.out.1;obtain rfl:=hR.out.2;clear hR;rcases Nat.lt_or_ge k n with hlt|hge
  ·have hlt':(k:Int)<(n:Int):=by omega
   obtain⟨ad,x,rfl,hx,hc0⟩:=HI.out.get hlt;have c0:=fun o=>(Ext.alloc w o).cell hc0;have HX:=hid hx;clear hx hc0
   by_cases h1:x=1
   ·subst h1;have HS2:=hid (show (ag.take (k+1)).all (fun a=>decide (a=1∨a=2))=true by rw[List.take_add_one,HX.out,List.all_append,HS.out];rfl);go_wp2_with fail
    go_roundw
    case rel=>exact⟨k+1,by simp,by omega,HS2.out,by trivial⟩
    case measure=>simp[intOf];omega
   by_cases h2:x=2
   ·subst h2;have HS2:=hid (show (ag.take (k+1)).all (fun a=>decide (a=1∨a=2))=true by rw[List.take_add_one,HX.out,List.all_append,HS.out];rfl);clear h1;go_wp2_with fail
    go_roundw
    case rel=>exact⟨k+1,by simp,by omega,HS2.out,by trivial⟩
    case measure=>simp[intOf];omega
   have hq1:(x != 1)=true:=by simpa using h1
   have hq2:(x != 2)=true:=by simpa using h2
   have HZ2:=hid (show false=z by
    rw[HZ.out,List.all_eq_false.2 ⟨x,List.mem_of_getElem? HX.out,by simp[h1,h2]⟩];rfl)
   clear h1 h2;go_wp2_with fail
   go_ret;obtain rfl:=HZ2.out;exact⟨rfl,Ext.alloc _ _⟩
  ·obtain rfl:n=k:=by omega
   have hz2:z=(sy&&(decide (n≤3)&&decide (rt=1∨rt=2))):=by
    have h1:=HS.out;rw[←HN.out,List.take_length] at h1;rw[HZ.out,h1,Bool.true_and]
   cases sy
   ·have HZ2:=hid (show false=z by rw[hz2];rfl);clear hz2 hge hk;go_wp2_with (go_at_call 58;refine(HY.out _).mono ?_;rintro e w' ⟨rfl,hx⟩;have E:=hid hx;obtain⟨r0,r1,r2⟩:=box3 hx;clear hx)
    go_ret;obtain rfl:=HZ2.out;exact⟨rfl,(Ext.alloc _ _).trans E.out⟩
   rw[Bool.true_and] at hz2
   by_cases hn3:n≤3
   case neg=>
    have HZ2:=hid (show false=z by rw[hz2,decide_eq_false hn3];rfl);have hq:decide ((n:Int)≤3)=false:=by simp;omega
    clear hz2 hge hk hn3;go_wp2_with (go_at_call 58;refine(HY.out _).mono ?_;rintro e w' ⟨rfl,hx⟩;have E:=hid hx;obtain⟨r0,r1,r2⟩:=box3 hx;clear hx)
    go_ret;obtain rfl:=HZ2.out;exact⟨rfl,(Ext.alloc _ _).trans E.out⟩
   case pos=>
   rw[decide_eq_true hn3,Bool.true_and] at hz2;have hq:(n:Int)≤3:=by omega
   by_cases h1:rt=1
   ·subst h1;have HZ2:=hid (show true=z by rw[hz2];rfl);clear hz2 hge hk hn3;go_wp2_with (go_at_call 58;refine(HY.out _).mono ?_;rintro e w' ⟨rfl,hx⟩;have E:=hid hx;obtain⟨r0,r1,r2⟩:=box3 hx;clear hx)
    go_ret;obtain rfl:=HZ2.out;exact⟨rfl,(Ext.alloc _ _).trans E.out⟩
   by_cases h2:rt=2
   ·subst h2;have HZ2:=hid (show true=z by rw[hz2];rfl);clear hz2 hge hk hn3 h1;go_wp2_with (go_at_call 58;refine(HY.out _).mono ?_;rintro e w' ⟨rfl,hx⟩;have E:=hid hx;obtain⟨r0,r1,r2⟩:=box3 hx;clear hx)
    go_ret;obtain rfl:=HZ2.out;exact⟨rfl,(Ext.alloc _ _).trans E.out⟩
   have HZ2:=hid (show false=z by rw[hz2,decide_eq_false (by omega)]);have hq1:(rt==1)=false:=by simpa using h1
   have hq2:(rt==2)=false:=by simpa using h2
   clear hz2 hge hk hn3 h1 h2;go_wp2_with (go_at_call 58;refine(HY.out _).mono ?_;rintro e w' ⟨rfl,hx⟩;have E:=hid hx;obtain⟨r0,r1,r2⟩:=box3 hx;clear hx)
   go_ret;obtain rfl:=HZ2.out;exact⟨rfl,(Ext.alloc _ _).trans E.out⟩
set_option linter.unusedSimpArgs false
set_option linter.unusedVariables false
open Go.RowKit
namespace M
def ksameS (a b:Sg): Bool:=decide (a=b)
end M
theorem box33 {w wN:World}{x0 x1 x2 y0 y1 y2:Value}{T T':TypeId}(h:Ext ((w.alloc (.cells #[x0,x1,x2] T)).alloc (.cells #[y0,y1,y2] T')) wN):
 (wN.cell? ⟨w.heap.size,0,none⟩=some x0∧wN.cell? ⟨w.heap.size,1,none⟩=some x1∧wN.cell? ⟨w.heap.size,2,none⟩=some x2)∧(wN.cell? ⟨w.heap.size+1,0,none⟩=some y0∧wN.cell? ⟨w.heap.size+1,1,none⟩=some y1∧wN.cell? ⟨w.heap.size+1,2,none⟩=some y2):=by
 have h1:=((Box.new w #[x0,x1,x2] T).alloc (.cells #[y0,y1,y2] T')).up h;have h2:=(Box.at_ (w:=w.alloc (.cells #[x0,x1,x2] T)) (g:=w.heap.size+1) #[y0,y1,y2] T' (by simp)).up h;exact⟨⟨h1.k 0,h1.k 1,h1.k 2⟩,h2.k 0,h2.k 1,h2.k 2⟩
theorem take_ne {a b:List Int}{k:Nat}{x y:Int}(ha:a[k]?=some x)(hb:b[k]?=some y)(hne:x≠y): a≠b:=by
 intro e;rw[e,hb] at ha;injection ha with ha;exact hne ha.symm
set_option maxHeartbeats 8000000 in
set_option maxRecDepth 100000 in
theorem kSameSig_n {s s':M.Sg}{v v':Value}{w:World}(h:IsSg w s v)(h':IsSg w s' v'): Calls Tryz.prog 42 #[v,v'] w (GivesB w (M.ksameS s s')):=by
 obtain⟨nm,ag,rt⟩:=s;obtain⟨nm',ag',rt'⟩:=s';obtain⟨A,c,rfl,hi⟩:=h;obtain⟨A',c',rfl,hi'⟩:=h';replace hi:Ints w ag (.slice A ag.length c):=hi;replace hi':Ints w ag' (.slice A' ag'.length c'):=hi';show Calls Tryz.prog 42 #[sgv nm A ag.length c rt,sgv nm' A' ag'.length c' rt'] w _;obtain⟨hl1,hl2,hl3⟩:=hi.le;obtain⟨hm1,hm2,hm3⟩:=hi'.le;obtain⟨n,hn'⟩:∃n,ag.length=n:=⟨_,rfl⟩;obtain⟨n',hn''⟩:∃n',ag'.length=n':=⟨_,rfl⟩;obtain⟨z,hz⟩:∃z,M.ksameS ⟨nm,ag,rt⟩ ⟨nm',ag',rt'⟩=z:=⟨_,rfl⟩;have hz1:z=decide (nm=nm'∧ag=ag'∧rt=rt'):=by rw[←hz];unfold M.ksameS;rw[decide_eq_decide];simp
 rw[hz];rw[hn'] at hi hl2;rw[hn''] at hi' hm2;rw[hn',hn''];have HN:=hid hn';have HN':=hid hn'';clear hz hl1 hm1;have E2:Ext w ((w.alloc (.cells #[str nm,.slice A n c,.int .i64 rt] 62)).alloc (.cells #[str nm',.slice A' n' c',.int .i64 rt'] 62)):=alloc_two w _ _
 by_cases h1:nm=nm'
 case neg=>
  have HZ:=hid (show false=z by rw[hz1,decide_eq_false (fun h=>h1 h.1)]);clear hz1 hi hi' hn' hn'';go_enter Tryz.func42,Tryz.ntmps42
  go_wp2;go_ret;obtain rfl:=HZ.out;exact⟨rfl,E2⟩
 case pos=>
 subst h1
 by_cases h2:rt=rt'
 case neg=>
  have HZ:=hid (show false=z by rw[hz1,decide_eq_false (fun h=>h2 h.2.2)]);clear hz1 hi hi' hn' hn'';go_enter Tryz.func42,Tryz.ntmps42
  go_wp2;go_ret;obtain rfl:=HZ.out;exact⟨rfl,E2⟩
 case pos=>
 subst h2
 by_cases h3:n=n'
 case neg=>
  have HZ:=hid (show false=z by rw[hz1,decide_eq_false (fun h=>h3 (by rw[←hn',←hn'',h.2.1]))]);have hq:((n:Int)==(n':Int))=false:=by simp;omega
  clear hz1 hi hi' hn' hn'';go_enter Tryz.func42,Tryz.ntmps42
  go_wp2;go_ret;obtain rfl:=HZ.out;exact⟨rfl,E2⟩
 case pos=>
 subst h3;have HI:=hid hi;have HI':=hid hi';have HZ1:=hid (show z=decide (ag=ag') by rw[hz1,decide_eq_decide];simp);clear hz1 hi hi' hn' hn'' E2;go_enter Tryz.func42,Tryz.ntmps42
 go_wp2_with fail
 go_loopw[5] (fun i wr=>∃(k:Nat),i=.int .i64 (k:Int)∧k≤n∧Hid (ag.take k=ag'.take k∧Ext ((w.alloc (.cells #[str nm,.slice A n c,.int .i64 rt] 62)).alloc (.cells #[str nm,.slice A' n c',.int .i64 rt] 62)) wr)) (fun i _=>n-(intOf i).toNat)
 case atStart=>exact⟨0,rfl,Nat.zero_le _,rfl,Ext.refl _⟩
 case round=>
  obtain⟨k,rfl,hk,hR⟩:=hrel;have E:=hid hR.out.2;have HS:=hid hR.out.1;obtain⟨⟨b0,b1,b2⟩,d0,d1,d2⟩:=box33 E.out;clear hR;rcases Nat.lt_or_ge k n with hlt|hge
  ·have hlt':(k:Int)<(n:Int):=by omega
   obtain⟨ad,x,rfl,hx,a0⟩:=(HI.out.up ((alloc_two w _ _).trans E.out)).get hlt;obtain⟨ad',y,rfl,hy,a1⟩:=(HI'.out.up ((alloc_two w _ _).trans E.out)).get hlt;have HX:=hid hx;have HY:=hid hy;clear hx hy
   by_cases hxy:x=y
   ·subst hxy;have HS2:=hid (show ag.take (k+1)=ag'.take (k+1) by rw[List.take_add_one,List.take_add_one,HX.out,HY.out,HS.out]);go_wp2_with fail
    refine wp_region_D [(0,0),(1,0),(2,0),(3,0),(4,0),(5,0),(6,0),(7,0),(8,0),(9,0),(10,0)] fun wd hb=>?_;replace E:=hid (E.out.trans hb);replace b1:=hb.cell b1;replace d1:=hb.cell d1;replace a0:=hb.cell a0;replace a1:=hb.cell a1;clear hb;refine WE.p 34 (.pointer (some ⟨w.heap.size,1,none⟩)) ?_;simp only[pX];refine WE.q 35 (.slice (some ad) n c) rfl (fun w' hk=>by have ce:=hk.cell b1;go_simp) ?_;simp only[pX];refine WE.p 36 (.int .i64 (k:Int)) ?_;simp only[pX];refine WE.p 37 (.pointer (some (ad.add k))) ?_;simp only[pX];refine WE.q 38 (.int .i64 x) rfl (fun w' hk=>by have ce:=hk.cell a0;go_simp) ?_;simp only[pX];refine WE.p 39 (.pointer (some ⟨w.heap.size+1,1,none⟩)) ?_;simp only[pX];refine WE.q 40 (.slice (some ad') n c') rfl (fun w' hk=>by have ce:=hk.cell d1;go_simp) ?_;simp only[pX];refine WE.p 41 (.int .i64 (k:Int)) ?_;simp only[pX];refine WE.p 42 (.pointer (some (ad'.add k))) ?_;simp only[pX];refine WE.q 43 (.int .i64 x) rfl (fun w' hk=>by have ce:=hk.cell a1;go_simp) ?_;simp only[pX];refine WE.p 44 (.bool false) ?_;simp only[pX];refine WE.done ?_;go_wp2_with fail
    go_roundw
    case rel=>exact⟨k+1,by simp,by omega,HS2.out,E.out⟩
    case measure=>simp[intOf];omega
   ·have hq:(x != y)=true:=by simpa using hxy
    have HZ:=hid (show false=z by rw[HZ1.out,decide_eq_false (take_ne HX.out HY.out hxy)]);clear hxy;go_wp2_with fail
    refine wp_region_D [(0,0),(1,0),(2,0),(3,0),(4,0),(5,0),(6,0),(7,0),(8,0),(9,0),(10,0)] fun wd hb=>?_;replace E:=hid (E.out.trans hb);replace b1:=hb.cell b1;replace d1:=hb.cell d1;replace a0:=hb.cell a0;replace a1:=hb.cell a1;clear hb;refine WE.p 34 (.pointer (some ⟨w.heap.size,1,none⟩)) ?_;simp only[pX];refine WE.q 35 (.slice (some ad) n c) rfl (fun w' hk=>by have ce:=hk.cell b1;go_simp) ?_;simp only[pX];refine WE.p 36 (.int .i64 (k:Int)) ?_;simp only[pX];refine WE.p 37 (.pointer (some (ad.add k))) ?_;simp only[pX];refine WE.q 38 (.int .i64 x) rfl (fun w' hk=>by have ce:=hk.cell a0;go_simp) ?_;simp only[pX];refine WE.p 39 (.pointer (some ⟨w.heap.size+1,1,none⟩)) ?_;simp only[pX];refine WE.q 40 (.slice (some ad') n c') rfl (fun w' hk=>by have ce:=hk.cell d1;go_simp) ?_;simp only[pX];refine WE.p 41 (.int .i64 (k:Int)) ?_;simp only[pX];refine WE.p 42 (.pointer (some (ad'.add k))) ?_;simp only[pX];refine WE.q 43 (.int .i64 y) rfl (fun w' hk=>by have ce:=hk.cell a1;go_simp) ?_;simp only[pX];refine WE.p 44 (.bool true) ?_;simp only[pX];refine WE.done ?_;go_wp2_with fail
    go_ret;obtain rfl:=HZ.out;exact⟨rfl,(alloc_two w _ _).trans E.out⟩
  ·obtain rfl:n=k:=by omega
   have HZ:=hid (show true=z by
    have h1:=HS.out;rw[←HN.out,List.take_length,HN.out,←HN'.out,List.take_length] at h1;rw[HZ1.out,decide_eq_true h1])
   go_wp2;go_ret;obtain rfl:=HZ.out;exact⟨rfl,(alloc_two w _ _).trans E.out⟩
namespace M
end M
def SgAt (w:World)(s:M.Sg)(a:Addr): Prop:=∃A n c,(w.cell? a=some (str s.name)∧w.cell? (a.add 1)=some (.slice A n c)∧w.cell? (a.add 2)=some (.int .i64 s.ret))∧Ints w s.args (.slice A n c)
def Sgs (w:World)(l:List M.Sg)(v:Value): Prop:=∃A n c,v=.slice A n c∧n=l.length∧n≤c∧c≤maxLen∧(l≠[]→∃ad,A=some ad∧ad.block<w.heap.size∧∀k s,l[k]?=some s→SgAt w s (ad.add (k*3)))
theorem SgAt.up {w w':World}{s:M.Sg}{a:Addr}(h:SgAt w s a)(e:Ext w w'): SgAt w' s a:=by
 obtain⟨A,n,c,⟨h1,h2,h3⟩,h4⟩:=h;exact⟨A,n,c,⟨e.cell h1,e.cell h2,e.cell h3⟩,h4.up e⟩
theorem Sgs.up {w w':World}{l:List M.Sg}{v:Value}(h:Sgs w l v)(e:Ext w w'): Sgs w' l v:=by
 obtain⟨A,n,c,h1,h2,h3,h4,h5⟩:=h;refine⟨A,n,c,h1,h2,h3,h4,fun hne=>?_⟩;obtain⟨ad,ha,hb,hc⟩:=h5 hne;exact⟨ad,ha,Nat.lt_of_lt_of_le hb e.size,fun k s hk=>(hc k s hk).up e⟩
theorem Sgs.nil (w:World): Sgs w [] (.slice none 0 0):=⟨none,0,0,rfl,rfl,Nat.le_refl _,Nat.zero_le _,fun h=>absurd rfl h⟩
theorem Sgs.shape {w:World}{l:List M.Sg}{v:Value}(h:Sgs w l v): ∃A c,v=.slice A l.length c:=by
 obtain⟨A,n,c,h1,h2,_⟩:=h;exact⟨A,c,by rw[h1,h2]⟩
theorem Sgs.le {w:World}{A:Option Addr}{n c:Nat}{l:List M.Sg}(h:Sgs w l (.slice A n c)): n=l.length∧n≤c∧c≤9223372036854775807:=by
 obtain⟨A',n',c',e,h2,h3,h4,_⟩:=h;injection e with e1 e2 e3;subst e1 e2 e3;exact⟨h2,h3,by unfold maxLen at h4;omega⟩
theorem Sgs.get {w:World}{A:Option Addr}{n c:Nat}{l:List M.Sg}(h:Sgs w l (.slice A n c)){k:Nat}(hk:k<n):
 ∃ad s B d,A=some ad∧l[k]?=some s∧(w.cell? (ad.add (k*3))=some (str s.name)∧w.cell? ⟨(ad.add (k*3)).block,(ad.add (k*3)).off+1,none⟩=some (.slice B s.args.length d)∧w.cell? ⟨(ad.add (k*3)).block,(ad.add (k*3)).off+2,none⟩=some (.int .i64 s.ret))
  ∧ IsSg w s (sgv s.name B s.args.length d s.ret):=by
 obtain⟨A',n',c',e,h2,h3,h4,h5⟩:=h;injection e with e1 e2 e3;subst e1 e2 e3;obtain⟨ad,ha,hb,hc⟩:=h5 (by intro e;subst e;simp at h2;omega);have hx:l[k]?=some l[k]:=List.getElem?_eq_getElem (by omega);obtain⟨B,m,d,⟨c0,c1,c2⟩,hi⟩:=hc k _ hx;have hm:=hi.le.1;subst hm;exact⟨ad,_,B,d,ha,hx,⟨c0,c1,c2⟩,B,d,rfl,hi⟩
theorem kshape {w:World}{base:Nat}{e:TypeId}{size:Nat}{v:Value}{n:Nat}{xs:List Value}(h:w.ownsRow base e size v n xs): ∃A c,v=.slice A n c∧n≤c∧c≤maxLen:=by
 rcases h.2 with⟨rfl,rfl⟩|⟨g,cap',cur,rfl,h3,h4,h5,h6,_⟩
 ·exact⟨none,0,rfl,Nat.le_refl _,Nat.zero_le _⟩
 ·exact⟨_,_,rfl,h5,h6⟩
theorem kgrown {w w':World}{row:Option Nat}(h:w.grownBy w' row): Kept row.toList w w':=
 ⟨⟨h.os,h.tape,h.output,h.size,fun k hk=>absurd hk (Nat.not_lt_zero _)⟩,fun k hk hn=>h.block k hk fun e=>hn (by rw[←e];simp)⟩
theorem kexec_app {P:Program}{w w':World}{v u v':Value}{o:Oper}{a:Act}{t:TypeId}(s x:Operand)(ho:o.op=.call { callee:=.builtin .append,args:=#[s,x],argTypes:=#[t,t] })(hs:a.eval s=v)(hx:a.eval x=u)
 (h:(Builtin.append_ #[t,t] o.type #[v,u]).run P w=.ok v' w'):(execOp a.eval o).run P w=.ok (.value v') w':=by
 unfold execOp;simp only[ho,resolve,invoke,builtin,Sem.run_bind,Sem.run_pure,Result.andThen_ok,List.map_toArray,List.map_cons,List.map_nil,hs,hx,h]
theorem kframe {w w':World}{base size n:Nat}{e:TypeId}{v:Value}{xs:List Value}(h:w.ownsRow base e size v n xs)(hb:∀b,base≤b→b<w.heap.size→w'.heap[b]?=w.heap[b]?): w'.ownsRow base e size v n xs:=by
 obtain⟨hl,h2⟩:=h;refine⟨hl,h2.imp id ?_⟩;rintro⟨g,cap,cur,h3,h4,h5,h6⟩;exact⟨g,cap,cur,h3,h4,by rw[hb g h4 (Array.getElem?_eq_some_iff.1 h5).1];exact h5,h6⟩
theorem kown_base {w:World}{base size n:Nat}{e:TypeId}{v:Value}{xs:List Value}(h:w.ownsRow base e size v n xs){b:Nat}(hb:b∈v.ownBlock.toList): base≤b:=by
 simp at hb;exact(World.ownsRow.lt h b hb).1
def OwnI (base:Nat)(w:World)(v:Value)(l:List Int): Prop:=w.ownsRow base 3 1 v l.length (l.map fun x:Int=>Value.int .i64 x)
theorem OwnI.nil (base:Nat)(w:World): OwnI base w (.slice none 0 0) []:=World.ownsRow_nil w base _ 1
theorem OwnI.frame {base:Nat}{w w':World}{v:Value}{l:List Int}(h:OwnI base w v l)(hb:∀b,base≤b→b<w.heap.size→w'.heap[b]?=w.heap[b]?): OwnI base w' v l:=kframe h hb
theorem OwnI.ints {base:Nat}{w:World}{v:Value}{l:List Int}(h:OwnI base w v l): Ints w l v:=by
 have hh:=h;obtain⟨hl,h3⟩:=h;rcases h3 with⟨rfl,h0⟩|⟨b,cap,cur,rfl,hb,hc,hc1,hm,_,_⟩
 ·obtain rfl:l=[]:=List.eq_nil_of_length_eq_zero h0;exact⟨none,0,0,rfl,rfl,Nat.le_refl _,Nat.zero_le _,fun h=>absurd rfl h⟩
 ·refine⟨_,_,_,rfl,rfl,hc1,hm,fun hn=>⟨_,rfl,(Array.getElem?_eq_some_iff.1 hc).1,fun k x hk=>?_⟩⟩;exact World.ownsRow.cells hh (g:=b) rfl _ _ (by rw[List.getElem?_map,hk];rfl)
theorem info_int8:(Tryz.prog.info? 3).map (fun i=>(i.zero,i.size,i.bytes))=some (some (.int .i64 0),1,8):=by kernel_rfl
theorem appI_run {base:Nat}{w:World}{v:Value}{l:List Int}{x:Int}{gL:Nat}{tL:TypeId}(h:OwnI base w v l)(hL:Box w gL #[.int .i64 x] tL)(hlen:l.length+1≤1000000000)(hbase:base≤w.heap.size)(ty:TypeId):
 ∃v' w',(Builtin.append_ #[60,60] ty #[v,.slice (some ⟨gL,0,none⟩) 1 1]).run Tryz.prog w=.ok v' w'∧OwnI base w' v' (l++[x])∧Below base w w'∧Kept v.ownBlock.toList w w':=by
 obtain⟨i0,hi,hz0,hz1,hz2⟩:=info_parts info_int8;obtain⟨v',w',hrun,ho',hg,_,hv'⟩:=run_append_own_at (P:=Tryz.prog) w base 60 ty 3 i0 _ 1 8 Tryz.underlying60 hi hz0 hz1 hz2 rfl (by decide) v l.length _ h ⟨gL,0,none⟩ 1 1 [.int .i64 x] rfl (by
  intro j u hj;rw[Addr.add_lit,Nat.zero_add];rcases j with _|j
  ·simp at hj;subst hj;exact hL.k 0
  ·simp at hj) (by intro u hu;simp at hu;subst hu;rfl) (by unfold maxLen;omega) (by omega) hbase
 exact⟨v',w',hrun,by unfold OwnI;rw[List.length_append,List.map_append];exact ho',(Below.refl _ _).grown hg hbase fun k hk=>(World.ownsRow.lt h k hk).1,kgrown hg⟩
namespace M
def sigOf (t:Tm): Sg:=⟨t.name,t.kids.map Tm.sort,t.sort⟩
end M
def GivesSg (w:World)(s:M.Sg)(e:Ending)(w':World): Prop:=∃A c,e=.returned (sgv s.name A s.args.length c s.ret)∧Ints w' s.args (.slice A s.args.length c)∧Ext w w'
theorem kbelow_box {w w':World}{B g:Nat}{cs:Array Value}{T:TypeId}(h:Box w g cs T)(hb:Below B w w')(hg:g<B): Box w' g cs T:=(hb.block g hg).trans h
theorem box3b {w:World}{k:Nat}{x0 x1 x2:Value}{T:TypeId}(h:Box w k #[x0,x1,x2] T): w.cell? ⟨k,0,none⟩=some x0∧w.cell? ⟨k,1,none⟩=some x1∧w.cell? ⟨k,2,none⟩=some x2:=⟨h.k 0,h.k 1,h.k 2⟩
theorem free3 {w:World}{k:Nat}{x0 x1 x2:Value}{T:TypeId}(h:Box w k #[x0,x1,x2] T): w.frozen? ⟨k,0,none⟩=false∧w.frozen? ⟨k,1,none⟩=false∧w.frozen? ⟨k,2,none⟩=false:=⟨h.free 0,h.free 1,h.free 2⟩
def RoundSg (w:World)(op:Int)(g:Bool)(N:Option Addr)(nn nc:Nat)(nm:List UInt8)(so:Int)(A:Option Addr)(n c:Nat)(l:List Int)(iv:Value)(wr:World): Prop:=
 Box wr w.heap.size #[.int .i64 op,.bool g,.slice N nn nc,str nm,.int .i64 so,.slice A n c] 27∧Box wr (w.heap.size+1) #[.string ⟨#[]⟩,.slice none 0 0,.int .i64 0] 62 ∧
 Box wr (w.heap.size+2) #[str nm,iv,.int .i64 so] 62∧OwnI (w.heap.size+3) wr iv l∧Ext w wr
set_option maxHeartbeats 16000000 in
set_option maxRecDepth 100000 in
theorem kSigOf_n {t:M.Tm}{v:Value}{w:World}(h:IsTm w t v)(hlen:t.kids.length≤1000000): Calls Tryz.prog 86 #[v] w (GivesSg w (M.sigOf t)):=by
 obtain⟨op,g,ls,nm,so,ks⟩:=t;obtain⟨N,nn,nc,A,c,rfl,hn,hk⟩:=h;replace hk:Tms w ks (.slice A ks.length c):=hk;show Calls Tryz.prog 86 #[kv op g N nn nc nm so A ks.length c] w (GivesSg w ⟨nm,ks.map M.Tm.sort,so⟩);replace hlen:ks.length≤1000000:=hlen;obtain⟨hl1,hl2,hl3⟩:=hk.le;obtain⟨n,hnn⟩:∃n,ks.length=n:=⟨_,rfl⟩;rw[hnn] at hk hl2 hlen ⊢;have HT:=hid hk;have HN:=hid hnn;clear hk hl1 hnn hn;go_enter Tryz.func86,Tryz.ntmps86
 go_wp2_with fail
 go_loopw[4] (fun i wr=>∃(k:Nat) (iv:Value),i=.int .i64 (k:Int)∧k≤n∧Hid (RoundSg w op g N nn nc nm so A n c ((ks.take k).map M.Tm.sort) iv wr)) (fun i _=>n-(intOf i).toNat)
 case atStart=>
  refine⟨0,.slice none 0 0,rfl,Nat.zero_le _,⟨((Box.new w _ _).alloc _).alloc _,?_,?_,OwnI.nil _ _,((Ext.alloc w _).alloc' _).alloc' _⟩⟩
  ·exact(Box.at_ (w:=w.alloc _) (g:=w.heap.size+1) _ _ (by simp)).alloc _
  ·exact Box.at_ (w:=(w.alloc _).alloc _) (g:=w.heap.size+2) _ _ (by simp)
 case round=>
  obtain⟨k,iv,rfl,hk,hR⟩:=hrel;obtain⟨L,hL⟩:∃L,(ks.take k).map M.Tm.sort=L:=⟨_,rfl⟩;have hR':=hR.out;rw[hL] at hR';obtain⟨hB0,hB1,hB2,hOw,hE⟩:=hR';obtain⟨m,hm⟩:∃m,L.length=m:=⟨_,rfl⟩;have HL:=hid hL;have HM:=hid hm;obtain⟨IA,ic,rfl,hi1,hi2⟩:=kshape hOw;obtain⟨⟨b0,b1,b2,b3,b4,b5⟩,-,hz0⟩:=boxF6 hB0;have HB0:=hid hB0;have HB1:=hid hB1;have HB2:=hid hB2;have HO:=hid hOw;have E:=hid hE;rw[hm] at hi1 HB2 HO;clear hR hB0 hB1 hB2 hOw hE hL hm;rcases Nat.lt_or_ge k n with hlt|hge
  ·have hlt':(k:Int)<(n:Int):=by omega
   obtain⟨ad,u,N',nn',nc',B,d,rfl,hu,⟨c0,c1,c2,c3,c4,c5⟩,hv⟩:=HT.out.get hlt;have hadb:(ad.add (k*6)).block<w.heap.size:=by have:=World.block_lt_of_cell? w _ c4;exact this
   replace c4:=E.out.cell c4;obtain⟨y,hy⟩:∃y,u.sort=y:=⟨_,rfl⟩;rw[hy] at c4;have HU:=hid hu;have HY:=hid hy;have HX:=hid (show ∀b,b∈(Value.slice IA m ic).ownBlock.toList→w.heap.size+3≤b from fun b hb=>kown_base HO.out hb);have HLK:=hid (show L.length=k by rw[←HL.out,List.length_map,List.length_take,HN.out];omega);clear hu hv hy c0 c1 c2 c3 c5;go_wp2_with fail
   refine wp_region_K (Value.slice IA m ic).ownBlock.toList [(0,0),(1,0),(2,0),(3,0),(4,0),(5,0),(6,0),(7,0),(8,1),(9,1),(10,2),(11,3)] fun wd hb=>?_;have Ed:=hid hb;clear hb;refine WK.p 17 (.pointer (some ⟨w.heap.size+2,1,none⟩)) ?_;simp only[pX];refine WK.q 18 (.slice IA m ic) rfl (fun w' hk=>by have ce:=((HB2.out.up Ed.out).kept hk (fun h=>by have:=HX.out _ h;omega)).k 1 (v:=.slice IA m ic);go_simp) ?_;simp only[pX];refine WK.p 19 (.pointer (some ⟨w.heap.size,5,none⟩)) ?_;simp only[pX];refine WK.q 20 (.slice (some ad) n c) rfl (fun w' hk=>by have ce:=((HB0.out.up Ed.out).kept hk (fun h=>by have:=HX.out _ h;omega)).k 5 (v:=.slice (some ad) n c);go_simp) ?_;simp only[pX];refine WK.p 21 (.int .i64 (k:Int)) ?_;simp only[pX];refine WK.p 22 (.pointer (some (ad.add (k*6)))) ?_;simp only[pX];refine WK.p 23 (.pointer (some ⟨(ad.add (k*6)).block,(ad.add (k*6)).off+4,none⟩)) ?_;simp only[pX];refine WK.q 24 (.int .i64 y) rfl (fun w' hk=>by have ce:=hk.cell (fun h=>by have:=HX.out _ h;omega) (Ed.out.cell c4);go_simp) ?_;simp only[pX];refine WK.act 25 (v:=.slice (some ⟨wd.heap.size,0,none⟩) 1 1) (w':=wd.alloc (.cells #[.int .i64 y] 3)) rfl (by go_simp) ((Ext.alloc _ _).kept _) ?_;simp only[pX];have hEd:=Ed.out.size;obtain⟨v',w5,hrun,hO5,hB5,hK5⟩:=appI_run ((HO.out.frame fun b _ hb=>Ed.out.block b hb).frame (w':=wd.alloc (.cells #[.int .i64 y] 3)) fun b _ hb=>(Ext.alloc wd _).block b hb) (Box.new wd #[.int .i64 y] 3) (by rw[HLK.out];omega) (by have:=HB2.out.lt;simp;omega) 60;obtain⟨A5,c5,rfl,hs5a,hs5b⟩:=kshape hO5;obtain⟨m5,hm5⟩:∃m5,(L++[y]).length=m5:=⟨_,rfl⟩;rw[hm5] at hO5 hrun hs5a;have HO5:=hid hO5;have HB5:=hid (show Below (w.heap.size+3) wd w5 from((Below.refl _ _).alloc (by have:=HB2.out.lt;omega) _).trans hB5);have HK5:=hid hK5;refine WK.act 26 rfl (kexec_app (.tmp 18) (.tmp 25) rfl rfl rfl hrun) hK5 ?_;clear hrun hO5 hB5 hK5;simp only[pX];have hX5:=kbelow_box (HB2.out.up Ed.out) HB5.out (by omega);obtain⟨d0,d1,d2⟩:=box3b hX5;obtain⟨f0,f1,f2⟩:=free3 hX5;have hl5:=hX5.lt;have HX5:=hid hX5;refine WK.y 27 (.pointer (some ⟨w.heap.size+2,1,none⟩)) ?_;simp only[pX];refine WK.st (w':=w5.setCell ⟨w.heap.size+2,1,none⟩ (.slice A5 m5 c5)) ?_;refine WK.done ?_;have HS2:=hid (show (ks.take (k+1)).map M.Tm.sort=L++[y] by rw[List.take_add_one,HU.out,←HL.out];simp[HY.out]);go_wp2_with fail
   go_roundw
   case rel=>
    refine⟨k+1,.slice A5 m5 c5,by simp,by omega,⟨?_,?_,?_,?_,?_⟩⟩
    ·exact(kbelow_box (HB0.out.up Ed.out) HB5.out (by omega)).far (show w.heap.size≠w.heap.size+2 by omega) _
    ·exact(kbelow_box (HB1.out.up Ed.out) HB5.out (by omega)).far (show w.heap.size+1≠w.heap.size+2 by omega) _
    ·exact HX5.out.setAt 1 _
    ·rw[HS2.out];exact HO5.out.frame fun b hb1 hb2=>Below.heap_setCell _ _ _ _ (show b≠w.heap.size+2 by omega)
    ·exact(show Ext w w5 from Below.trans (B:=w.heap.size) (E.out.trans Ed.out) (Below.mono HB5.out (by omega))).set' (by show w.heap.size≤w.heap.size+2;omega) _
   case measure=>simp[intOf];omega
  ·obtain rfl:n=k:=by omega
   have HS2:=hid (show ks.map M.Tm.sort=L by rw[←HL.out,←HN.out,List.take_length]);obtain⟨d0,d1,d2⟩:=box3b HB2.out;obtain⟨r0,r1,r2⟩:=box3b HB1.out;obtain⟨q0,q1,q2⟩:=free3 HB1.out;have hz1:=HB1.out.lt;have hz2:=HB2.out.lt;go_wp2_with fail
   refine bodyPost_ret (v:=sgv nm IA m ic so) (by simp[results,Tryz.results86,go_sem,r0,r1,r2,hz1]) rfl ?_;rw[HS2.out];refine⟨IA,ic,by rw[←HM.out],?_,?_⟩
   ·rw[show L.length=m from HM.out];exact(HO.out.frame fun b hb1 hb2=>((Below.heap_setCell _ _ _ _ (show b≠w.heap.size+1 by omega)).trans (Below.heap_setCell _ _ _ _ (show b≠w.heap.size+1 by omega))).trans (Below.heap_setCell _ _ _ _ (show b≠w.heap.size+1 by omega))).ints
   ·exact((E.out.set' (by show w.heap.size≤w.heap.size+1;omega) _).set' (by show w.heap.size≤w.heap.size+1;omega) _).set' (by show w.heap.size≤w.heap.size+1;omega) _
end Go.Proofs.YtoenjbkmiphhoaaGreatDoor.Q
