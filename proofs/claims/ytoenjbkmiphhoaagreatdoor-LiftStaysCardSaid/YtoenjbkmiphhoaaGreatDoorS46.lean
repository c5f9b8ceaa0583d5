/-
  Package lift: Do.
-/
import Derived.Test.YtoenjbkmiphhoaaGreatDoorS44
import Derived.Test.YtoenjbkmiphhoaaGreatDoorS34
import Derived.Test.YtoenjbkmiphhoaaGreatDoorS39
import Derived.Test.YtoenjbkmiphhoaaGreatDoorS24
import Derived.Test.YtoenjbkmiphhoaaGreatDoorS23
namespace Go.Proofs.YtoenjbkmiphhoaaGreatDoor.Q
set_option linter.unusedSimpArgs false
set_option linter.unusedVariables false
open Go.RowKit
def GivesDo (w:World)(r:M.Tm×M.LS)(e:Ending)(w':World): Prop:=
 ∃u hv,e=.returned (.tuple #[u,hv,.int .i64 r.2.next])∧IsTm w' r.1 u∧Tms w' r.2.held hv∧Ext w w'
set_option maxHeartbeats 8000000 in
theorem do_l {t:M.Tm}{v:Value}{next:Int}{w:World}(ht:IsTm w t v)(hf:M.kfew t=true)(hc:M.kcnt t≤100000)(htab:TabL w)(hr:M.Room (M.kcnt t) (M.ls0 next)):
 Calls Tryz.prog 12 #[v,.int .i64 next] w (GivesDo w (M.lifted t next)):=by
 have HD:=hid (show ∀w',Ext w w'→Calls Tryz.prog 36 #[v,.int .i64 next] w' (GivesLf w w' (M.lifted t next)) from fun w' e=>lifted_l e ht hf hc htab hr)
 obtain⟨r,hrr⟩:∃r,M.lifted t next=r:=⟨_,rfl⟩
 rw[hrr] at HD ⊢
 obtain⟨N,nn,nc,A,c,rfl,hn,hks⟩:=ht
 obtain⟨o1,ho1⟩:∃o,t.op=o:=⟨_,rfl⟩
 obtain⟨o2,ho2⟩:∃o,t.g=o:=⟨_,rfl⟩
 obtain⟨o3,ho3⟩:∃o,t.name=o:=⟨_,rfl⟩
 obtain⟨o4,ho4⟩:∃o,t.sort=o:=⟨_,rfl⟩
 obtain⟨o5,ho5⟩:∃o,t.kids.length=o:=⟨_,rfl⟩
 rw[ho1,ho2,ho3,ho4,ho5] at HD ⊢
 clear hn hks ho1 ho2 ho3 ho4 ho5 hf hc htab hr hrr
 have HB0:=hid (show Box ((w.alloc (.cells #[.int .i64 o1,.bool o2,.slice N nn nc,str o3,.int .i64 o4,.slice A o5 c] 27)).alloc (.cells zero6 27)) w.heap.size #[.int .i64 o1,.bool o2,.slice N nn nc,str o3,.int .i64 o4,.slice A o5 c] 27 from(Box.new w _ _).alloc _)
 have HB1:=hid (show Box ((w.alloc (.cells #[.int .i64 o1,.bool o2,.slice N nn nc,str o3,.int .i64 o4,.slice A o5 c] 27)).alloc (.cells zero6 27)) (w.heap.size+1) zero6 27 from Box.at_ (w:=w.alloc (.cells #[.int .i64 o1,.bool o2,.slice N nn nc,str o3,.int .i64 o4,.slice A o5 c] 27)) _ _ (by simp))
 have E0:=hid (alloc_two w (.cells #[.int .i64 o1,.bool o2,.slice N nn nc,str o3,.int .i64 o4,.slice A o5 c] 27) (.cells zero6 27))
 go_enter Tryz.func12,Tryz.ntmps12
 go_upto_region 1 with (fail)
 refine vwp_at (fun W'=>Box W' w.heap.size #[.int .i64 o1,.bool o2,.slice N nn nc,str o3,.int .i64 o4,.slice A o5 c] 27∧Box W' (w.heap.size+1) zero6 27∧Ext w W') ⟨HB0.out,HB1.out,E0.out⟩ ?_
 clear HB0 HB1 E0
 intro W1 ⟨hb0,hb1,he⟩
 obtain⟨g0,hg0⟩:∃g,w.heap.size=g:=⟨_,rfl⟩
 obtain⟨g1,hg1⟩:∃g,g0+1=g:=⟨_,rfl⟩
 have HG:=hid (And.intro hg0 hg1)
 rw[hg0,hg1] at hb1 ⊢
 rw[hg0] at hb0
 have HB1:=hid hb1
 have E:=hid he
 obtain⟨⟨b0,b1,b2,b3,b4,b5⟩,-,-⟩:=boxF6 hb0
 clear hb0 hb1 he hg0 hg1
 go_wp2_with fail
 refine(HD.out _ E.out).mono ?_
 rintro e w2 ⟨u,hv,cv,rfl,hu,hh,hcn,hx⟩
 obtain⟨x1,x2,xN,xn,xm,x3,x4,xA,x5,xd,rfl⟩:=hu.kvs
 obtain⟨hA,hc,rfl⟩:=hh.shape
 obtain⟨cA,cc,rfl,-,-⟩:=hcn.shape
 obtain⟨N1,hN1⟩:∃n,W1.heap.size=n:=⟨_,rfl⟩
 have HN1:=hid (show g1<N1 from hN1▸HB1.out.lt)
 rw[hN1] at hu hh
 obtain⟨hn,hhn⟩:∃n,r.2.held.length=n:=⟨_,rfl⟩
 obtain⟨cn,hcn2⟩:∃n,r.2.cons.length=n:=⟨_,rfl⟩
 rw[hhn] at hh
 rw[hhn,hcn2]
 obtain⟨nx,hnx⟩:∃n,r.2.next=n:=⟨_,rfl⟩
 obtain⟨rf,hrf⟩:∃n,r.2.ref=n:=⟨_,rfl⟩
 rw[hnx,hrf]
 have HU:=hid hu
 have HH:=hid hh
 replace HB1:=hid (HB1.out.up hx)
 replace E:=hid (E.out.trans hx)
 have HNX:=hid hnx
 clear hu hh hcn hx hhn hcn2 hnx hrf hN1 b0 b1 b2 b3 b4 b5 HD
 go_upto_region 2 with (fail)
 refine vwp_at (fun W'=>Box W' w2.heap.size #[.int .i64 x1,.bool x2,.slice xN xn xm,str x3,.int .i64 x4,.slice xA x5 xd] 27∧Box W' (w2.heap.size+1) #[.int .i64 nx,.slice hA hn hc,.slice cA cn cc,.bool rf] 74∧Ext w2 W') ⟨(Box.new w2 _ _).alloc _,Box.at_ (w:=w2.alloc _) _ _ (by simp),alloc_two w2 _ _⟩ ?_
 intro W4 ⟨hb7,hb8,he⟩
 obtain⟨g7,hg7⟩:∃g,w2.heap.size=g:=⟨_,rfl⟩
 obtain⟨g8,hg8⟩:∃g,g7+1=g:=⟨_,rfl⟩
 have HG7:=hid (show g1≠g7∧g1≠g8∧g1<W4.heap.size∧g8<W4.heap.size from⟨by have:=HB1.out.lt;omega,by have:=HB1.out.lt;omega,(HB1.out.up he).lt,by have:=hb8.lt;omega⟩)
 rw[hg7,hg8] at hb8 ⊢
 rw[hg7] at hb7
 have HB7:=hid hb7
 have HB8:=hid hb8
 replace HU:=hid (HU.out.sub (gp_extV he))
 replace HH:=hid (HH.out.sub (gp_extV he))
 replace HB1:=hid (HB1.out.up he)
 replace E:=hid (E.out.trans he)
 clear hb7 hb8 he hg7 hg8
 have HXX:=hid (show ∀x∈[g1],x<W4.heap.size from by intro x hx;simp at hx;subst hx;exact HG7.out.2.2.1)
 refine wp_region_M (Kept [g1]) (KeptB W4.heap.size [g1]) (relB _ HXX.out) (fun _ _=>undef) [(0,0),(1,5),(2,5),(3,5),(4,5),(5,4),(6,5),(7,5)] 27 zero6 (fun wd hb=>?_) (by
  intro j hj
  simp[pend] at hj)
 replace HB7:=hid (HB7.out.up hb)
 have HB8d:=hid (HB8.out.up hb)
 replace HU:=hid (HU.out.sub (gp_extV hb))
 replace HH:=hid (HH.out.sub (gp_extV hb))
 replace HB1:=hid (HB1.out.up hb)
 replace E:=hid (E.out.trans hb)
 clear hb
 refine WM.q 15 (kv x1 x2 xN xn xm x3 x4 xA x5 xd) rfl (fun w' hk=>by obtain⟨⟨c0,c1,c2,c3,c4,c5⟩,-,-⟩:=boxF6 (HB7.out.kept hk (by have:=HG7.out.1;simp;omega));go_simp) ?_
 simp only[pX]
 refine WM.y 16 (.pointer (some ⟨g8,1,none⟩)) ?_ (hy:=fun w' hk=>by go_simp)
 simp only[pX]
 refine WM.y 17 (.slice hA hn hc) ?_ (hy:=fun w' hk=>by obtain⟨⟨c0,c1,c2,c3⟩,-,-⟩:=box4l (HB8d.out.keptX hk HG7.out.2.2.2 (by have:=HG7.out.2.1;simp;omega));go_simp)
 simp only[pX]
 refine WM.y 18 (.pointer (some ⟨g8,0,none⟩)) ?_ (hy:=fun w' hk=>by go_simp)
 simp only[pX]
 refine WM.y 19 (.int .i64 nx) ?_ (hy:=fun w' hk=>by obtain⟨⟨c0,c1,c2,c3⟩,-,-⟩:=box4l (HB8d.out.keptX hk HG7.out.2.2.2 (by have:=HG7.out.2.1;simp;omega));go_simp)
 simp only[pX]
 obtain⟨⟨r0,r1,r2,r3,r4,r5⟩,⟨f0,f1,f2,f3,f4,f5⟩,hz⟩:=boxF6 HB1.out
 refine WM.store (w':=put6 wd g1 (.int .i64 x1) (.bool x2) (.slice xN xn xm) (str x3) (.int .i64 x4) (.slice xA x5 xd)) rfl rfl (by rfl) (by go_simp) ⟨put6_kept.1,fun i hi hb hx=>put6_kept.2 i hi hx⟩ ?_
 clear r0 r1 r2 r3 r4 r5 f0 f1 f2 f3 f4 f5 hz
 obtain⟨wf,hwf⟩:∃x,put6 wd g1 (.int .i64 x1) (.bool x2) (.slice xN xn xm) (str x3) (.int .i64 x4) (.slice xA x5 xd)=x:=⟨_,rfl⟩
 have HS:=hid (show Sub (gp (outer w N1) wd) wf from hwf▸(gpv_mono (q:=fun _=>True) put6_kept.1.size fun k h1 h2=>⟨trivial,put6_kept.2 k h1 (by have:=HN1.out;have:=HG.out;have h3:k<w.heap.size∨N1≤k:=h2;simp;omega)⟩).trans (gp_sub _ _))
 have HK:=hid (show Ext w wf from hwf▸put6_ext E.out (by have:=HG.out;omega))
 have HB:=hid (show Box wf g1 #[.int .i64 x1,.bool x2,.slice xN xn xm,str x3,.int .i64 x4,.slice xA x5 xd] 27 from hwf▸(((((HB1.out.setAt 0 _).setAt 1 _).setAt 2 _).setAt 3 _).setAt 4 _).setAt 5 _)
 rw[hwf]
 refine WM.y 5 (.slice hA hn hc) ?_ (hy:=fun w' hk=>by go_simp)
 simp only[pX]
 refine WM.y 6 (.int .i64 nx) ?_ (hy:=fun w' hk=>by go_simp)
 simp only[pX]
 refine WM.done ?_
 obtain⟨⟨r0,r1,r2,r3,r4,r5⟩,-,hz⟩:=boxF6 HB.out
 go_wp2_with fail
 refine bodyPost_ret (v:=.tuple #[kv x1 x2 xN xn xm x3 x4 xA x5 xd,.slice hA hn hc,.int .i64 nx]) (by simp[results,Tryz.results12,go_sem,r0,r1,r2,r3,r4,r5,hz]) rfl ?_
 rw[←HNX.out]
 refine⟨_,_,rfl,?_,?_,HK.out⟩
 ·exact HU.out.sub HS.out
 ·exact HH.out.sub HS.out
set_option linter.unusedSimpArgs false
set_option linter.unusedVariables false
open Go.RowKit
theorem M.has1s_take {ks:List M.Tm}{k:Nat}{t:M.Tm}(h:ks[k]?=some t): M.has1s (ks.take (k+1))=(M.has1s (ks.take k)||M.has1 t):=by
 have e:∀a b:List M.Tm,M.has1s (a++b)=(M.has1s a||M.has1s b):=fun a b=>by
  induction a with
  | nil=>simp[M.has1s]
  | cons x r ih=>simp[M.has1s,ih,Bool.or_assoc]
 rw[List.take_add_one,h,e]
 simp[M.has1s]
theorem M.has1s_yes {ks:List M.Tm}{k:Nat}{t:M.Tm}(e:ks[k]?=some t)(h:M.has1 t=true): M.has1s ks=true:=by
 rcases hq:M.has1s ks with _|_
 ·rw[M.has1s_at hq e] at h;cases h
 ·rfl
set_option linter.unusedSimpArgs false
set_option linter.unusedVariables false
open Go.RowKit
set_option maxHeartbeats 8000000 in
set_option maxRecDepth 20000 in
theorem pureL_n:∀(F:Nat) {l:List M.Tm} {v:Value} {w:World},M.kcnts l<F→Tms w l v→Calls Tryz.prog 41 #[v] w (GivesB w (!M.has1s l))
 | 0,_,_,_,hF,_=>absurd hF (Nat.not_lt_zero _)
 | F+1,l,v,w,hF,hl=>by
  obtain⟨A,c,rfl⟩:=hl.shape
  obtain⟨-,hl2,hl3⟩:=hl.le
  obtain⟨n,hn⟩:∃n,l.length=n:=⟨_,rfl⟩
  rw[hn] at hl hl2 ⊢
  have HK:=hid hl
  have HN:=hid hn
  have HI:=hid (show ∀(k:Nat) (u:M.Tm),l[k]?=some u→∀(v:Value) (w:World),Tms w u.kids v→Calls Tryz.prog 41 #[v] w (GivesB w (!M.has1s u.kids)) from fun k u hu v w h=>by
   have h1:=M.kcnts_at hu
   have h2:M.kcnt u=1+M.kcnts u.kids:=by obtain⟨op,g,ls,nm,s,ks⟩:=u;rw[M.kcnt];rfl
   exact pureL_n F (by omega) h)
  obtain⟨z,hz⟩:∃z,(!M.has1s l)=z:=⟨_,rfl⟩
  have HZ:=hid hz
  rw[hz]
  clear hl hn hF hz
  go_enter Tryz.func41,Tryz.ntmps41
  go_wp2_with fail
  go_loopw[7] (fun i wr=>∃k:Nat,k≤n∧i=.int .i64 k∧Hid (M.has1s (l.take k)=false∧Ext w wr)) (fun i _=>n-(intOf i).toNat)
  case atStart=>exact⟨0,Nat.zero_le _,rfl,by simp[M.has1s],Ext.refl _⟩
  case round=>
   obtain⟨k,hk,rfl,hR⟩:=hrel
   have E:=hid hR.out.2
   have HS:=hid hR.out.1
   clear hR
   rcases Nat.lt_or_ge k n with hlt|hge
   ·have hlt':(k:Int)<(n:Int):=by omega
    obtain⟨ad,t,N,nn,nc,B,d,rfl,ht,⟨c0,c1,c2,c3,c4,c5⟩,hit⟩:=(HK.out.up E.out).get hlt
    have HU:=hid ht
    have HT:=hid (show Tms wr t.kids (.slice B t.kids.length d) from by
     obtain⟨N',nn',nc',A',c',e,-,h2⟩:=hit
     simp only[kv,Value.agg.injEq,Array.mk.injEq,List.cons.injEq,Value.slice.injEq,and_true,true_and] at e
     obtain⟨-,rfl,rfl⟩:=e
     exact h2)
    have HC:=hid (fun (w':World) (e:Ext wr w')=>HI.out k t ht _ w' (HT.out.up e))
    have HH:=hid (show M.has1 t=((decide (t.op=12)&&decide (t.sort=2))||decide (t.op=18)||M.has1s t.kids) from by obtain⟨op,g,ls,nm,s,ks⟩:=t;rw[M.has1];rfl)
    obtain⟨zk,hzk⟩:∃z,M.has1s t.kids=z:=⟨_,rfl⟩
    rw[hzk] at HC HH
    obtain⟨o1,ho1⟩:∃o,t.op=o:=⟨_,rfl⟩
    obtain⟨o2,ho2⟩:∃o,t.g=o:=⟨_,rfl⟩
    obtain⟨o3,ho3⟩:∃o,t.name=o:=⟨_,rfl⟩
    obtain⟨o4,ho4⟩:∃o,t.sort=o:=⟨_,rfl⟩
    obtain⟨o5,ho5⟩:∃o,t.kids.length=o:=⟨_,rfl⟩
    rw[ho1] at c0 HH
    rw[ho2] at c1
    rw[ho3] at c3
    rw[ho4] at c4 HH
    rw[ho5] at c5 HC
    have EB:=hid (Ext.alloc wr (.cells #[.int .i64 o1,.bool o2,.slice N nn nc,str o3,.int .i64 o4,.slice B o5 d] 27))
    have HB:=hid (Box.new wr #[.int .i64 o1,.bool o2,.slice N nn nc,str o3,.int .i64 o4,.slice B o5 d] 27)
    obtain⟨⟨b0,b1,b2,b3,b4,b5⟩,-,-⟩:=boxF6 HB.out
    clear ht hit hzk ho1 ho2 ho3 ho4 ho5 HT
    go_wp2_with fail
    refine(choice_n _).mono ?_
    rintro e w3 ⟨rfl,hx⟩
    have E3:=hid (EB.out.trans hx)
    replace HB:=hid (HB.out.up hx)
    clear hx b0 b1 b2 b3 b4 b5 EB
    obtain⟨⟨b0,b1,b2,b3,b4,b5⟩,-,-⟩:=boxF6 HB.out
    by_cases h12:o1=12∧o4=2
    ·obtain⟨rfl,rfl⟩:=h12
     rw[show (decide ((12:Int)=12)&&decide ((2:Int)=2))=true from rfl]
     go_wp2
     go_ret
     obtain rfl:false=z:=by rw[←HZ.out,M.has1s_yes HU.out (by rw[HH.out];rfl)];rfl
     exact⟨rfl,E.out.trans E3.out⟩
    ·have HD:=hid (show (decide (o1=12)&&decide (o4=2))=false from by
      rw[Bool.and_eq_false_iff,decide_eq_false_iff_not,decide_eq_false_iff_not]
      rcases Classical.em (o1=12) with h|h
      ·exact .inr fun h2=>h12 ⟨h,h2⟩
      ·exact .inl h)
     rw[HD.out]
     clear h12
     by_cases h18:o1=18
     ·subst h18
      go_wp2
      go_ret
      obtain rfl:false=z:=by rw[←HZ.out,M.has1s_yes HU.out (by rw[HH.out];simp)];rfl
      exact⟨rfl,E.out.trans E3.out⟩
     ·have r18:(o1==18)=false:=by simpa using h18
      have H18:=hid h18
      clear h18
      cases zk
      ·go_wp2_with fail
       refine(HC.out _ E3.out).mono ?_
       rintro e w4 ⟨rfl,hb⟩
       have E4:=hid ((E.out.trans E3.out).trans hb)
       clear hb b0 b1 b2 b3 b4 b5
       go_wp2_with fail
       go_roundw
       case rel=>exact⟨k+1,by omega,by simp,by rw[M.has1s_take HU.out,HS.out,HH.out,HD.out,decide_eq_false H18.out];rfl,E4.out⟩
       case measure=>simp[intOf];omega
      ·go_wp2_with fail
       refine(HC.out _ E3.out).mono ?_
       rintro e w4 ⟨rfl,hb⟩
       have E4:=hid ((E.out.trans E3.out).trans hb)
       clear hb b0 b1 b2 b3 b4 b5
       go_wp2_with fail
       go_ret
       obtain rfl:false=z:=by rw[←HZ.out,M.has1s_yes HU.out (by rw[HH.out];simp)];rfl
       exact⟨rfl,E4.out⟩
   ·obtain rfl:k=n:=by omega
    go_wp2
    go_ret
    obtain rfl:true=z:=by rw[←HZ.out,←List.take_length (l:=l),HN.out,HS.out];rfl
    exact⟨rfl,E.out⟩
set_option maxHeartbeats 4000000 in
set_option maxRecDepth 20000 in
theorem pure_n {t:M.Tm}{v:Value}{w:World}(h:IsTm w t v): Calls Tryz.prog 18 #[v] w (GivesB w (!M.has1 t)):=by
 have HQ:=hid h
 obtain⟨o1,o2,N,nn,nc,o3,o4,A,n,c,rfl⟩:=h.kvs
 have e1:M.has1s [t]=M.has1 t:=by rw[M.has1s,M.has1s,Bool.or_false]
 have HB0:=hid (Box.new w #[.int .i64 o1,.bool o2,.slice N nn nc,str o3,.int .i64 o4,.slice A n c] 27)
 have E:=hid (Ext.alloc w (.cells #[.int .i64 o1,.bool o2,.slice N nn nc,str o3,.int .i64 o4,.slice A n c] 27))
 rw[←e1]
 clear h e1
 go_enter Tryz.func18,Tryz.ntmps18
 go_upto_region 1 with (fail)
 refine vwp_at (fun W'=>Box W' w.heap.size #[.int .i64 o1,.bool o2,.slice N nn nc,str o3,.int .i64 o4,.slice A n c] 27∧Ext w W') ⟨HB0.out,E.out⟩ ?_
 clear HB0 E
 intro W1 ⟨hb0,he⟩
 obtain⟨g0,hg0⟩:∃k,w.heap.size=k:=⟨_,rfl⟩
 rw[hg0] at hb0 ⊢
 have E:=hid he
 have HT:=hid (tms_one (HQ.out.up (E.out.trans (Ext.alloc W1 (.cells #[.int .i64 o1,.bool o2,.slice N nn nc,str o3,.int .i64 o4,.slice A n c] 27)))) (Box.new W1 #[.int .i64 o1,.bool o2,.slice N nn nc,str o3,.int .i64 o4,.slice A n c] 27))
 have E2:=hid (E.out.trans (Ext.alloc W1 (.cells #[.int .i64 o1,.bool o2,.slice N nn nc,str o3,.int .i64 o4,.slice A n c] 27)))
 obtain⟨⟨b0,b1,b2,b3,b4,b5⟩,-,-⟩:=boxF6 hb0
 clear hb0 he hg0
 go_wp2_with fail
 refine(pureL_n (M.kcnts [t]+1) (Nat.lt_succ_self _) HT.out).mono ?_
 rintro e w2 ⟨rfl,hx⟩
 clear b0 b1 b2 b3 b4 b5
 have E3:=hid (E2.out.trans hx)
 clear hx
 go_wp2_with fail
 go_ret
 exact⟨rfl,E3.out⟩
set_option linter.unusedSimpArgs false
set_option linter.unusedVariables false
open Go.RowKit
namespace M
def wth (f:Fn): List Fn→Bool→List Fn
 | [],d=>if d=true then[] else[f]
 | g::r,d=>(if d=false∧Go.Op.bytesLess g.sg.name f.sg.name=false then[f] else[])++((if g.sg.name≠f.sg.name then[g] else[])++wth f r (d||!Go.Op.bytesLess g.sg.name f.sg.name))
theorem wth_true (f:Fn): ∀l:List Fn,wth f l true=l.filter fun g=>decide (g.sg.name≠f.sg.name)
 | []=>by rw[wth];rfl
 | g::r=>by
  rw[wth,if_neg (by rintro⟨h,-⟩;cases h),Bool.true_or,wth_true f r,List.filter_cons]
  by_cases h:g.sg.name=f.sg.name
  ·rw[if_neg (by simpa using h),if_neg (by simpa using h)];rfl
  ·rw[if_pos h,if_pos (by simpa using h)];rfl
theorem asc_cons {g:Fn}{r:List Fn}(h:kAsc ((g::r).map Fn.sg)): kAsc (r.map Fn.sg)∧∀x∈r,Go.Op.bytesLess g.sg.name x.sg.name=true:=by
 refine⟨fun i j x y hij hx hy=>h (i+1) (j+1) x y (by omega) (by simpa using hx) (by simpa using hy),fun x hx=>?_⟩
 obtain⟨k,hk⟩:=List.getElem?_of_mem hx
 exact h 0 (k+1) g.sg x.sg (by omega) (by simp) (by simp[hk])
theorem wth_put (f:Fn): ∀l:List Fn,kAsc (l.map Fn.sg)→wth f l false=mPut l f
 | [],_=>by rw[wth];rfl
 | g::r,h=>by
  obtain⟨h1,h2⟩:=asc_cons h
  rw[wth,Bool.false_or]
  rcases hb:Go.Op.bytesLess g.sg.name f.sg.name with _|_
  ·rw[if_pos ⟨rfl,rfl⟩,Bool.not_false,wth_true]
   unfold mPut
   rw[List.takeWhile_cons,hb,List.dropWhile_cons,hb]
   simp only[Bool.false_eq_true,if_false,List.nil_append,List.singleton_append]
   congr 1
   rw[List.dropWhile_cons]
   by_cases he:g.sg.name=f.sg.name
   ·rw[if_neg (by simpa using he),if_pos (by simpa using he),List.nil_append]
    have h3:∀x∈r,x.sg.name≠f.sg.name:=fun x hx e=>by
     have:=h2 x hx
     rw[he,e,less_irrefl] at this
     cases this
    rw[List.filter_eq_self.2 fun x hx=>by simpa using h3 x hx]
    cases r with
    | nil=>rfl
    | cons x q=>rw[List.dropWhile_cons,if_neg (by simpa using h3 x (by simp))]
   ·rw[if_pos he,if_neg (by simpa using he),List.singleton_append]
    congr 1
    refine List.filter_eq_self.2 fun x hx=>?_
    have h4:Go.Op.bytesLess f.sg.name g.sg.name=true:=less_tri hb he
    have h5:=less_trans h4 (h2 x hx)
    simp only[ne_eq,decide_not,Bool.not_eq_eq_eq_not,Bool.not_true,decide_eq_false_iff_not]
    intro e
    rw[e,less_irrefl] at h5
    cases h5
  ·have he:g.sg.name≠f.sg.name:=fun e=>by rw[e,less_irrefl] at hb;cases hb
   rw[if_neg (by rintro⟨-,h⟩;cases h),if_pos he,Bool.not_true,wth_put f r h1]
   unfold mPut
   rw[List.takeWhile_cons,hb,List.dropWhile_cons,hb]
   rfl
theorem wth_step {f g:Fn}{l:List Fn}{k:Nat}(h:l[k]?=some g)(d:Bool): wth f (l.drop k) d=(if d=false∧Go.Op.bytesLess g.sg.name f.sg.name=false then[f] else[])++((if g.sg.name≠f.sg.name then[g] else[])++wth f (l.drop (k+1)) (d||!Go.Op.bytesLess g.sg.name f.sg.name)):=by
 have hk:=(List.getElem?_eq_some_iff.1 h).1
 rw[List.drop_eq_getElem_cons hk,(List.getElem?_eq_some_iff.1 h).2,wth]
end M
set_option linter.unusedSimpArgs false
set_option linter.unusedVariables false
open Go.RowKit
theorem M.cz_zero {s:Int}{g:Bool}{ls:List Nat}(h:M.isZ g ls=true): decide (M.cz (s,g,ls)=1)=decide (g=false∧ls=M.limbs (1:Int).natAbs):=by
 rw[decide_eq_decide]
 obtain⟨c1,c2⟩:=M.canon_isZ (x:=(s,g,ls)) h
 constructor
 ·intro e
  rw[e] at c1 c2
  exact⟨c1,c2⟩
 ·rintro⟨rfl,rfl⟩
  exact M.zv_of 1
set_option maxHeartbeats 8000000 in
theorem xIsValue_n {x:M.Vl}{v:Value}{s:Int}{w:World}(h:IsVl w x v): Calls Tryz.prog 35 #[v,.int .i64 s] w (GivesB w (M.vIs x s)):=by
 obtain⟨t,g,ls⟩:=x
 obtain⟨N,nn,nc,rfl,hn⟩:=h
 replace hn:LNum w (.slice N nn nc) ls:=hn
 show Calls Tryz.prog 35 #[vv t g N nn nc,.int .i64 s] w _
 obtain⟨R,hRR⟩:∃R,M.vIs (t,g,ls) s=R:=⟨_,rfl⟩
 rw[hRR]
 have HR:=hid (show R=(decide (t=s)&&(M.isZ g ls&&(decide (s=2)||(decide (M.cz (t,g,ls)=0)||decide (M.cz (t,g,ls)=1))))) from hRR.symm)
 obtain⟨q,hq⟩:∃q,M.isZ g ls=q:=⟨_,rfl⟩
 have HI:=hid (show ∀w',Ext w w'→Calls Tryz.prog 59 #[.agg #[.bool g,.slice N nn nc]] w' (GivesB w' q) from fun w' e=>rzIs_any (LNum.up hn e) hq)
 have HN:=hid (fun w' (e:Ext w w')=>LNum.up hn e)
 have HQ:=hid hq
 obtain⟨⟨b0,b1,b2⟩,-,-⟩:=box3v (Box.new w #[.int .i64 t,.bool g,.slice N nn nc] 45)
 clear hRR hq hn
 by_cases hs:t=s
 case neg=>
  obtain rfl:R=false:=by rw[HR.out,decide_eq_false hs];rfl
  have hq1:(t==s)=false:=by simpa using hs
  have hq2:(t != s)=true:=by simpa using hs
  clear hs HR
  go_enter Tryz.func35,Tryz.ntmps35
  go_wp2_with fail
  go_ret
  exact⟨rfl,Ext.alloc w _⟩
 subst hs
 replace HR:=hid (show R=(q&&(decide (t=2)||(decide (M.cz (t,g,ls)=0)||decide (M.cz (t,g,ls)=1)))) by rw[HR.out,decide_eq_true rfl,Bool.true_and,HQ.out])
 go_enter Tryz.func35,Tryz.ntmps35
 go_wp2_with fail
 clear b0 b1 b2
 refine(HI.out _ (Ext.alloc w _)).mono ?_
 rintro e w1 ⟨rfl,hx⟩
 have E:=hid ((Ext.alloc w (.cells #[.int .i64 t,.bool g,.slice N nn nc] 45)).trans hx)
 have HB:=hid ((Box.new w #[.int .i64 t,.bool g,.slice N nn nc] 45).up hx)
 clear hx HI
 cases q
 case false=>
  obtain rfl:R=false:=by rw[HR.out];rfl
  go_wp2_with fail
  go_ret
  exact⟨rfl,E.out⟩
 obtain⟨k,hk⟩:∃k,w.heap.size=k:=⟨_,rfl⟩
 rw[hk] at HB ⊢
 clear hk
 go_upto_region 3 with (fail)
 by_cases h2:t=2
 case pos=>
  obtain rfl:R=true:=by rw[HR.out,decide_eq_true h2];rfl
  have hq1:(t==2)=true:=by simpa using h2
  clear h2 HR
  refine wp_region_D [(0,0),(1,0),(2,0),(3,0),(4,0),(5,1),(6,0),(7,0),(8,0),(9,0),(10,0),(11,1),(12,1),(13,0),(14,0)] fun wd hb=>?_
  replace E:=hid (E.out.trans hb)
  replace HB:=hid (HB.out.up hb)
  clear hb
  refine WE.p 15 (.int .i64 t) ?_
  simp only[pX]
  refine WE.q 16 (.bool true) rfl (fun w' hk=>by go_simp) ?_
  simp only[pX]
  refine WE.p 17 (.bool true) ?_
  simp only[pX]
  refine WE.s 18 ?_
  simp only[pX]
  refine WE.s 19 ?_
  simp only[pX]
  refine WE.t 20 ?_
  simp only[pX]
  refine WE.s 21 ?_
  simp only[pX]
  refine WE.p 22 (.bool true) ?_
  simp only[pX]
  refine WE.p 23 (.bool true) ?_
  simp only[pX]
  refine WE.s 24 ?_
  simp only[pX]
  refine WE.s 25 ?_
  simp only[pX]
  refine WE.t 26 ?_
  simp only[pX]
  refine WE.t 27 ?_
  simp only[pX]
  refine WE.p 28 (.bool true) ?_
  simp only[pX]
  refine WE.p 4 (.bool true) ?_
  simp only[pX]
  refine WE.done ?_
  go_wp2_with fail
  go_ret
  exact⟨rfl,E.out⟩
 have hq1:(t==2)=false:=by simpa using h2
 obtain⟨Z,hZ⟩:∃Z,M.cz (t,g,ls)=Z:=⟨_,rfl⟩
 have HO:=hid (M.cz_zero (s:=t) HQ.out)
 rw[hZ] at HR HO
 have HZ:=hid (show M.zv g ls=Z from hZ)
 replace HR:=hid (show R=(decide (Z=0)||decide (g=false∧ls=M.limbs (1:Int).natAbs)) by rw[HR.out,decide_eq_false h2,Bool.false_or,Bool.true_and,HO.out])
 clear h2 hZ HO
 obtain⟨S,hS⟩:∃S,Z.sign=S:=⟨_,rfl⟩
 obtain⟨z0,hz0⟩:∃b,decide (Z=0)=b:=⟨_,rfl⟩
 have hs0:(S==0)=z0:=by rw[←hS,←hz0,Bool.eq_iff_iff];simp[Int.sign_eq_zero_iff_zero]
 obtain⟨e1,he1⟩:∃b,decide (g=false∧ls=M.limbs (1:Int).natAbs)=b:=⟨_,rfl⟩
 rw[hz0,he1] at HR
 have HS:=hid hS
 have HE:=hid he1
 have HW:=hid (show ∀w',Ext w w'→Worth w' (.agg #[.bool g,.slice N nn nc]) Z ls.length from fun w' e=>worth_of (HN.out w' e) (Nat.le_refl _) HZ.out.symm)
 clear hS hz0 he1
 refine wp_region_D [(0,0),(1,0),(2,0),(3,0),(4,0),(5,1),(6,0),(7,0),(8,0),(9,0),(10,0),(11,1),(12,1),(13,0),(14,0)] fun wd hb=>?_
 replace E:=hid (E.out.trans hb)
 replace HB:=hid (HB.out.up hb)
 clear hb
 refine WE.p 15 (.int .i64 t) ?_
 simp only[pX]
 refine WE.q 16 (.bool false) rfl (fun w' hk=>by go_simp) ?_
 simp only[pX]
 refine WE.p 17 (.bool false) ?_
 simp only[pX]
 refine WE.p 18 (.pointer (some ⟨k,1,none⟩)) ?_
 simp only[pX]
 refine WE.q 19 (.agg #[.bool g,.slice N nn nc]) rfl (fun w' hk=>by have x1:=(HB.out.up hk).k 1;have x2:=(HB.out.up hk).k 2;go_simp) ?_
 simp only[pX]
 refine WE.c 20 ((rSign_w (HW.out _ E.out) HS.out).mono ?_)
 rintro e w6 ⟨rfl,hb⟩
 refine⟨_,rfl,hb,?_⟩
 replace E:=hid (E.out.trans hb)
 replace HB:=hid (HB.out.up hb)
 clear hb
 simp only[pX]
 refine WE.q 21 (.bool z0) rfl (fun w' hk=>by go_simp) ?_
 simp only[pX]
 refine WE.q 22 (.bool z0) rfl (fun w' hk=>by go_simp) ?_
 simp only[pX]
 refine WE.p 23 (.bool z0) ?_
 simp only[pX]
 cases z0
 case true=>
  obtain rfl:R=true:=by rw[HR.out];rfl
  refine WE.s 24 ?_
  simp only[pX]
  refine WE.s 25 ?_
  simp only[pX]
  refine WE.t 26 ?_
  simp only[pX]
  refine WE.t 27 ?_
  simp only[pX]
  refine WE.p 28 (.bool true) ?_
  simp only[pX]
  refine WE.p 4 (.bool true) ?_
  simp only[pX]
  refine WE.done ?_
  go_wp2_with fail
  go_ret
  exact⟨rfl,E.out⟩
 case false=>
  obtain rfl:R=e1:=by rw[HR.out];rfl
  refine WE.p 24 (.pointer (some ⟨k,1,none⟩)) ?_
  simp only[pX]
  refine WE.q 25 (.agg #[.bool g,.slice N nn nc]) rfl (fun w' hk=>by have x1:=(HB.out.up hk).k 1;have x2:=(HB.out.up hk).k 2;go_simp) ?_
  simp only[pX]
  refine WE.c 26 ((rOf_z (n:=1) (by decide) (by decide) _).mono ?_)
  rintro e w6 ⟨v7,rfl,⟨N7,n7,c7,rfl,hn7,-⟩,hb⟩
  refine⟨_,rfl,hb,?_⟩
  replace E:=hid (E.out.trans hb)
  replace HB:=hid (HB.out.up hb)
  have HN7:=hid (show LNum w6 (.slice N7 n7 c7) (M.limbs (1:Int).natAbs) from hn7)
  clear hn7 hb
  simp only[pX]
  refine WE.c 27 ((requal_n (g:=g) (g':=false) (HN.out _ E.out) HN7.out).mono ?_)
  rintro e w6 ⟨rfl,hb⟩
  refine⟨_,rfl,hb,?_⟩
  replace E:=hid (E.out.trans hb)
  clear hb
  rw[HE.out]
  simp only[pX]
  refine WE.p 28 (.bool R) ?_
  simp only[pX]
  refine WE.p 4 (.bool R) ?_
  simp only[pX]
  refine WE.done ?_
  go_wp2_with fail
  go_ret
  exact⟨rfl,E.out⟩
end Go.Proofs.YtoenjbkmiphhoaaGreatDoor.Q
