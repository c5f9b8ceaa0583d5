/-
  Package lift: lifted.
-/
import Derived.Test.YtoenjbkmiphhoaaGreatDoorS42
import Derived.Test.YtoenjbkmiphhoaaGreatDoorS43
namespace Go.Proofs.YtoenjbkmiphhoaaGreatDoor.Q
set_option linter.unusedSimpArgs false
set_option linter.unusedVariables false
open Go.RowKit
abbrev outer (W:World)(N:Nat)(b:Nat): Prop:=b<W.heap.size∨N≤b
theorem LSt.told {W:World}{g N:Nat}{hv cv:Value}{st:M.LS}{w wf:World}(hs:LSt W g hv cv (Go.Proofs.YtoenjbkmiphhoaaGreatDoor.Q.fence W.heap.size g) st w)(hN:N≤g)(hk:∀k,k<w.heap.size→¬(W.heap.size≤k∧k<g)→wf.heap[k]?=w.heap[k]?)(hsz:w.heap.size≤wf.heap.size)(hq:∀k,W.heap.size≤k→k<g→qt g [hv,cv] k):
 Tms (gp (outer W N) wf) st.held hv∧OwnL CC 7 87 W.heap.size (gp (outer W N) wf) wf cv st.cons:=by
 have hS:Sub (gp (qt g (hv::cv::Go.Proofs.YtoenjbkmiphhoaaGreatDoor.Q.fence W.heap.size g)) w) (gp (outer W N) wf):=gpv_mono hsz fun k h1 h2=>by
  have h3:qt g ([hv,cv]++(Go.Proofs.YtoenjbkmiphhoaaGreatDoor.Q.fence W.heap.size g++[])) k:=by rw[List.append_nil];exact h2
  have h4:=(qt_fence.1 h3).2
  exact⟨by unfold outer;omega,hk k h1 h4⟩
 have ho:∀v∈[hv,cv],∀b,v.ownBlock=some b→¬(W.heap.size≤b∧b<g):=fun v hv2 b e h=>(hq b h.1 h.2).2 v hv2 e
 have hb:∀v∈[hv,cv],∀b,v.ownBlock=some b→wf.heap[b]?=w.heap[b]?:=fun v hv2 b e=>hk b (hs.low.2 v (by simp at hv2;rcases hv2 with rfl|rfl<;>simp) b e).2.1 (ho v hv2 b e)
 refine⟨hs.held.terms hS (by rw[gp_size];exact hsz) fun a u ⟨b,e,ha⟩ hc=>?_,(own_kept hs.cons fun b e=>hb cv (by simp) b e).world cck hS⟩
 refine gp_cell.2 ⟨by rw[ha];have:=ho hv (by simp) b e;unfold outer;omega,?_⟩
 rw[←hc]
 exact World.cell?_of_block (by rw[ha];exact hb hv (by simp) b e)
def GivesLf (W w:World)(r:M.Tm×M.LS)(e:Ending)(w':World): Prop:=
 ∃u hv cv,e=.returned (.tuple #[u,.agg #[.int .i64 r.2.next,hv,cv,.bool r.2.ref]])∧IsTm (gp (outer W w.heap.size) w') r.1 u∧Tms (gp (outer W w.heap.size) w') r.2.held hv∧OwnL CC 7 87 W.heap.size (gp (outer W w.heap.size) w') w' cv r.2.cons∧Ext w w'
set_option maxHeartbeats 8000000 in
theorem lifted_l {t:M.Tm}{v:Value}{next:Int}{W w:World}(hew:Ext W w)(ht:IsTm W t v)(hf:M.kfew t=true)(hc:M.kcnt t≤100000)(htab:TabL W)(hr:M.Room (M.kcnt t) (M.ls0 next)):
 Calls Tryz.prog 36 #[v,.int .i64 next] w (GivesLf W w (M.lifted t next)):=by
 have HQ:=hid ht
 obtain⟨N,nn,nc,A,c,rfl,hn,hks⟩:=ht
 obtain⟨o1,ho1⟩:∃o,t.op=o:=⟨_,rfl⟩
 obtain⟨o2,ho2⟩:∃o,t.g=o:=⟨_,rfl⟩
 obtain⟨o3,ho3⟩:∃o,t.name=o:=⟨_,rfl⟩
 obtain⟨o4,ho4⟩:∃o,t.sort=o:=⟨_,rfl⟩
 obtain⟨o5,ho5⟩:∃o,t.kids.length=o:=⟨_,rfl⟩
 rw[ho1,ho2,ho3,ho4,ho5] at HQ ⊢
 have HF:=hid hf
 have HC:=hid hc
 have HTB:=hid htab
 have HRM:=hid hr
 have HEW:=hid hew
 clear hew hn hks ho1 ho2 ho3 ho4 ho5 hf hc htab hr
 go_enter Tryz.func36,Tryz.ntmps36
 go_upto_region 2 with (fail)
 -- what is there
 refine vwp_at (fun W'=>Box W' w.heap.size #[.int .i64 o1,.bool o2,.slice N nn nc,str o3,.int .i64 o4,.slice A o5 c] 27∧Box W' (w.heap.size+1) zero6 27∧Box W' (w.heap.size+1+1) #[.int .i64 0,.slice none 0 0,.slice none 0 0,.bool false] 74∧Box W' (w.heap.size+1+1+1) #[.int .i64 next,.slice none 0 0,.slice none 0 0,.bool false] 74∧Ext w W'∧W'.heap.size=w.heap.size+4) ?_ ?_
 ·have h1:Box (w.alloc (.cells #[.int .i64 o1,.bool o2,.slice N nn nc,str o3,.int .i64 o4,.slice A o5 c] 27)) w.heap.size #[.int .i64 o1,.bool o2,.slice N nn nc,str o3,.int .i64 o4,.slice A o5 c] 27:=Box.new w _ _
  have h2:Box ((w.alloc (.cells #[.int .i64 o1,.bool o2,.slice N nn nc,str o3,.int .i64 o4,.slice A o5 c] 27)).alloc (.cells zero6 27)) (w.heap.size+1) zero6 27:=Box.at_ (w:=w.alloc (.cells #[.int .i64 o1,.bool o2,.slice N nn nc,str o3,.int .i64 o4,.slice A o5 c] 27)) _ _ (by simp)
  have h3:Box (((w.alloc (.cells #[.int .i64 o1,.bool o2,.slice N nn nc,str o3,.int .i64 o4,.slice A o5 c] 27)).alloc (.cells zero6 27)).alloc (.cells #[.int .i64 0,.slice none 0 0,.slice none 0 0,.bool false] 74)) (w.heap.size+1+1) #[.int .i64 0,.slice none 0 0,.slice none 0 0,.bool false] 74:=Box.at_ (w:=(w.alloc (.cells #[.int .i64 o1,.bool o2,.slice N nn nc,str o3,.int .i64 o4,.slice A o5 c] 27)).alloc (.cells zero6 27)) _ _ (by simp)
  have h4:Box ((((w.alloc (.cells #[.int .i64 o1,.bool o2,.slice N nn nc,str o3,.int .i64 o4,.slice A o5 c] 27)).alloc (.cells zero6 27)).alloc (.cells #[.int .i64 0,.slice none 0 0,.slice none 0 0,.bool false] 74)).alloc (.cells #[.int .i64 next,.slice none 0 0,.slice none 0 0,.bool false] 74)) (w.heap.size+1+1+1) #[.int .i64 next,.slice none 0 0,.slice none 0 0,.bool false] 74:=Box.at_ (w:=((w.alloc (.cells #[.int .i64 o1,.bool o2,.slice N nn nc,str o3,.int .i64 o4,.slice A o5 c] 27)).alloc (.cells zero6 27)).alloc (.cells #[.int .i64 0,.slice none 0 0,.slice none 0 0,.bool false] 74)) _ _ (by simp)
  exact⟨((h1.alloc _).alloc _).alloc _,(h2.alloc _).alloc _,h3.alloc _,h4,(((Ext.alloc w _).trans (Ext.alloc _ _)).trans (Ext.alloc _ _)).trans (Ext.alloc _ _),by simp⟩
 intro W1 ⟨hb0,hb1,hb2,hb3,he,hsz⟩
 obtain⟨g0,hg0⟩:∃g,w.heap.size=g:=⟨_,rfl⟩
 obtain⟨g1,hg1⟩:∃g,g0+1=g:=⟨_,rfl⟩
 obtain⟨g2,hg2⟩:∃g,g1+1=g:=⟨_,rfl⟩
 obtain⟨g,hg3⟩:∃g,g2+1=g:=⟨_,rfl⟩
 have HG:=hid (And.intro hg0 (And.intro hg1 (And.intro hg2 hg3)))
 rw[hg0,hg1] at hb1 hb2 hb3 ⊢
 rw[hg0] at hb0 hsz
 rw[hg2] at hb2 hb3 ⊢
 rw[hg3] at hb3 ⊢
 have HB0:=hid hb0
 have HB1:=hid hb1
 have HB2:=hid hb2
 have E:=hid he
 have HSZ:=hid hsz
 have HL:=hid (show LSt W g (.slice none 0 0) (.slice none 0 0) (fence W.heap.size g) (M.ls0 next) W1 from {
  ext:=HEW.out.trans he
  tab:=HTB.out
  low:=⟨⟨by have:=HEW.out.size;omega,by omega⟩,fun v hv k hk=>by
   simp only[List.mem_cons] at hv
   rcases hv with rfl|rfl|hv
   ·cases hk
   ·cases hk
   ·have:=fence_own hv hk;omega⟩
  box:=hb3
  held:=OwnL.nil _ _ _ _
  cons:=OwnL.nil _ _ _ _
  apart:=fun k hk=>by cases hk })
 have HWG:=hid (show W.heap.size≤g0 from by have:=HEW.out.size;omega)
 have HQ0:=hid (show ∀k,W.heap.size≤k→k<g→qt g [.slice none 0 0,.slice none 0 0] k from fun k h1 h2=>⟨by omega,fun v hv e=>by simp at hv;subst hv;cases e⟩)
 clear hb0 hb1 hb2 hb3 he hsz hg0 hg1 hg2 hg3
 obtain⟨⟨b0,b1,b2,b3,b4,b5⟩,-,-⟩:=boxF6 HB0.out
 go_wp2_with fail
 refine(is_t (HQ.out.up (HEW.out.trans E.out)) HF.out (HTB.out.up (HEW.out.trans E.out)).1).mono ?_
 rintro e w2 ⟨rfl,hx⟩
 replace HB0:=hid (HB0.out.up hx)
 replace HB1:=hid (HB1.out.up hx)
 replace HB2:=hid (HB2.out.up hx)
 replace HL:=hid (HL.out.up hx)
 replace E:=hid (E.out.trans hx)
 replace HSZ:=hid (show g<w2.heap.size from by have h1:=HSZ.out;have h2:=HG.out;have h3:=hx.size;omega)
 clear hx b0 b1 b2 b3 b4 b5
 obtain⟨⟨b0,b1,b2,b3,b4,b5⟩,-,-⟩:=boxF6 HB0.out
 have HCX:=hid (show (M.kIs t=true∧(M.lfT t (M.ls0 next)).2.ref=false)∨¬(M.kIs t=true∧(M.lfT t (M.ls0 next)).2.ref=false) from Classical.em _)
 by_cases hI:M.kIs t=true
 ·rw[hI]
  go_wp2_with fail
  refine(term_l (M.kcnt t+1) (Nat.lt_succ_self _) HC.out (M.kIs_parts hI).2 HF.out W g (.slice none 0 0) (.slice none 0 0) (fence W.heap.size g) (M.ls0 next) w2 _ HL.out (HQ.out.sub (HL.out.low.old (HEW.out.trans E.out))) HRM.out).mono ?_
  rintro e w3 ⟨u,hv,cv,rfl,hs,hu,ht⟩
  obtain⟨y0,hy0⟩:∃y,(M.lfT t (M.ls0 next)).1=y:=⟨_,rfl⟩
  obtain⟨s0,hs0⟩:∃y,(M.lfT t (M.ls0 next)).2=y:=⟨_,rfl⟩
  have HLF:=hid (show M.lfT t (M.ls0 next)=(y0,s0) from by rw[←hy0,←hs0])
  have HYC:=hid (show M.kcnt y0≤100000 from by rw[←hy0];exact Nat.le_trans (M.lfT_cnt t _) HC.out)
  have HYF:=hid (show M.kfew y0=true from by rw[←hy0];exact M.lfT_few t _ 0 HRM.out HF.out)
  rw[hy0] at hu
  rw[hs0] at hs
  obtain⟨x1,x2,xN,xn,xm,x3,x4,xA,x5,xd,rfl⟩:=hu.kvs
  have hq3:=fun k h1 h2=>ht.2 k (Nat.lt_trans h2 HSZ.out) (HQ0.out k h1 h2)
  have HQ3:=hid (show ∀k,W.heap.size≤k→k<g→qt g [hv,cv] k from fun k h1 h2=>(hq3 k h1 h2).1)
  replace HB0:=hid (show Box w3 g0 #[.int .i64 o1,.bool o2,.slice N nn nc,str o3,.int .i64 o4,.slice A o5 c] 27 from(hq3 g0 HWG.out (by have:=HG.out;omega)).2.trans HB0.out)
  replace HB1:=hid (show Box w3 g1 zero6 27 from(hq3 g1 (by have:=HG.out;have:=HWG.out;omega) (by have:=HG.out;omega)).2.trans HB1.out)
  replace HB2:=hid (show Box w3 g2 #[.int .i64 0,.slice none 0 0,.slice none 0 0,.bool false] 74 from(hq3 g2 (by have:=HG.out;have:=HWG.out;omega) (by have:=HG.out;omega)).2.trans HB2.out)
  have hbw:Below w.heap.size w2 w3:=⟨ht.1.os,ht.1.tape,ht.1.output,ht.1.size,fun k hk=>by
   rcases Nat.lt_or_ge k W.heap.size with h|h
   ·exact ht.1.block k h
   ·exact(hq3 k h (by have:=HG.out;omega)).2⟩
  replace E:=hid (show Ext w w3 from Below.trans (B:=w.heap.size) E.out hbw)
  replace HSZ:=hid (show g<w3.heap.size from Nat.lt_of_lt_of_le HSZ.out ht.size)
  have HS:=hid hs
  have HU:=hid (hu.sub (gp_sub _ _))
  clear hs hu ht hq3 hbw hy0 HL b0 b1 b2 b3 b4 b5 hs0
  go_upto_region 4 with (fail)
  refine vwp_at (fun W'=>Box W' w3.heap.size #[.int .i64 x1,.bool x2,.slice xN xn xm,str x3,.int .i64 x4,.slice xA x5 xd] 27∧Ext w3 W') ⟨Box.new w3 _ _,Ext.alloc _ _⟩ ?_
  intro w4 ⟨hb7,hx4⟩
  obtain⟨g7,hg7⟩:∃k,w3.heap.size=k:=⟨_,rfl⟩
  rw[hg7] at hb7 ⊢
  have HB7:=hid hb7
  have HG7:=hid (show g<g7 from by rw[←hg7];exact HSZ.out)
  have HX4:=hid hx4
  replace HB0:=hid (HB0.out.up hx4)
  replace HB1:=hid (HB1.out.up hx4)
  replace HB2:=hid (HB2.out.up hx4)
  replace HS:=hid (HS.out.up hx4)
  replace HU:=hid (HU.out.up hx4)
  replace E:=hid (E.out.trans hx4)
  replace HSZ:=hid (Nat.lt_of_lt_of_le HSZ.out hx4.size)
  clear hb7 hx4 hg7
  obtain⟨⟨c0,c1,c2,c3⟩,-,-⟩:=box4l HS.out.box
  rcases hrf:s0.ref with _|_
  ·rw[hrf] at c3
   have HR:=hid (show M.lifted t next=(y0,s0) from by unfold M.lifted;rw[HLF.out];exact if_pos ⟨hI,hrf⟩)
   go_upto_region 5 with (fail)
   obtain⟨hA,hc,rfl,-,-⟩:=HS.out.held.shape
   obtain⟨cA,cc,rfl,-,-⟩:=HS.out.cons.shape
   obtain⟨hn,hhn⟩:∃n,s0.held.length=n:=⟨_,rfl⟩
   obtain⟨cn,hcn⟩:∃n,s0.cons.length=n:=⟨_,rfl⟩
   rw[hhn,hcn] at HS HQ3
   clear hhn hcn
   have HQ5:=hid HQ3.out
   have HXX:=hid (show ∀x∈[g1,g2],x<w4.heap.size from by intro x hx;simp at hx;have:=HG.out;have:=HSZ.out;omega)
   have HG7:=hid (show g7∉[g1,g2]∧g∉[g1,g2]∧g<w4.heap.size from⟨by have h1:=HG7.out;have:=HG.out;simp;omega,by have:=HG.out;simp;omega,HSZ.out⟩)
   refine wp_region_M (Kept [g1,g2]) (KeptB w4.heap.size [g1,g2]) (relB _ HXX.out) (fun _ _=>undef) [(0,0),(2,5),(1,1),(3,4),(4,4)] 27 zero6 (fun wd hb=>?_) (by
    intro j hj
    simp[pend] at hj)
   have HSW:=hid (show g<wd.heap.size from Nat.lt_of_lt_of_le HSZ.out hb.size)
   have E4:=hid (HX4.out.trans hb)
   replace HS:=hid (HS.out.up hb)
   replace HB7:=hid (HB7.out.up hb)
   replace HB1:=hid (HB1.out.up hb)
   replace HB2:=hid (HB2.out.up hb)
   replace E:=hid (show Ext w wd from E.out.trans hb)
   refine WM.q 17 (kv x1 x2 xN xn xm x3 x4 xA x5 xd) rfl (fun w' hk=>by obtain⟨⟨c0,c1,c2,c3,c4,c5⟩,-,-⟩:=boxF6 (HB7.out.kept hk HG7.out.1);go_simp) ?_
   simp only[pX]
   refine WM.y 19 (.agg #[.int .i64 s0.next,.slice hA hn hc,.slice cA cn cc,.bool s0.ref]) ?_ (hy:=fun w' hk=>by obtain⟨⟨c0,c1,c2,c3⟩,-,-⟩:=box4l (HS.out.box.keptX hk HG7.out.2.2 HG7.out.2.1);go_simp)
   simp only[pX]
   replace HU:=hid (HU.out.up hb)
   clear hb
   refine WM.c 18 ((ownT_n (M.kcnt y0+1) (Nat.lt_succ_self _) HYC.out HYF.out HU.out).mono ?_)
   rintro e w5 ⟨u5,rfl,hu5,hb⟩
   refine⟨_,rfl,hb.kept _,?_⟩
   obtain⟨y1,y2,yN,yn,ym,y3,y4,yA,y5,yd,rfl⟩:=hu5.kvs
   have HU5:=hid hu5
   have HE5:=hid hb
   replace HB1:=hid (HB1.out.up hb)
   replace HB2:=hid (HB2.out.up hb)
   replace E:=hid (show Ext w w5 from E.out.trans hb)
   clear hu5 hb
   simp only[pX]
   obtain⟨⟨r0,r1,r2,r3,r4,r5⟩,⟨f0,f1,f2,f3,f4,f5⟩,hz⟩:=boxF6 HB1.out
   refine WM.store (w':=put6 w5 g1 (.int .i64 y1) (.bool y2) (.slice yN yn ym) (str y3) (.int .i64 y4) (.slice yA y5 yd)) rfl rfl (by rfl) (by go_simp) ⟨put6_kept.1,fun i hi hb hx=>put6_kept.2 i hi (by simp at hx ⊢;exact hx.1)⟩ ?_
   clear r0 r1 r2 r3 r4 r5 f0 f1 f2 f3 f4 f5 hz
   obtain⟨wa,hwa⟩:∃x,put6 w5 g1 (.int .i64 y1) (.bool y2) (.slice yN yn ym) (str y3) (.int .i64 y4) (.slice yA y5 yd)=x:=⟨_,rfl⟩
   have HKa:=hid (show Kept [g1] w5 wa from hwa▸put6_kept)
   have HBa1:=hid (show Box wa g1 #[.int .i64 y1,.bool y2,.slice yN yn ym,str y3,.int .i64 y4,.slice yA y5 yd] 27 from hwa▸(((((HB1.out.setAt 0 _).setAt 1 _).setAt 2 _).setAt 3 _).setAt 4 _).setAt 5 _)
   rw[hwa]
   clear hwa
   have HBa2:=hid (show Box wa g2 #[.int .i64 0,.slice none 0 0,.slice none 0 0,.bool false] 74 from HB2.out.kept HKa.out (by have:=HG.out;simp;omega))
   obtain⟨⟨c0,c1,c2,c3⟩,⟨f0,f1,f2,f3⟩,hlt⟩:=box4l HBa2.out
   have HKb:=hid (show Kept [g2] wa ((((wa.setCell ⟨g2,0,none⟩ (.int .i64 s0.next)).setCell ⟨g2,1,none⟩ (.slice hA hn hc)).setCell ⟨g2,2,none⟩ (.slice cA cn cc)).setCell ⟨g2,3,none⟩ (.bool s0.ref)) from(((kept_setAt _).setIn (List.mem_singleton.2 rfl)).setIn (List.mem_singleton.2 rfl)).setIn (List.mem_singleton.2 rfl))
   refine WM.store (w':=(((wa.setCell ⟨g2,0,none⟩ (.int .i64 s0.next)).setCell ⟨g2,1,none⟩ (.slice hA hn hc)).setCell ⟨g2,2,none⟩ (.slice cA cn cc)).setCell ⟨g2,3,none⟩ (.bool s0.ref)) rfl rfl (by rfl) (by go_simp) ⟨HKb.out.1,fun i hi hb hx=>HKb.out.2 i hi (by simp at hx ⊢;exact hx.2)⟩ ?_
   clear c0 c1 c2 c3 f0 f1 f2 f3 hlt
   have HBb2:=hid (show Box ((((wa.setCell ⟨g2,0,none⟩ (.int .i64 s0.next)).setCell ⟨g2,1,none⟩ (.slice hA hn hc)).setCell ⟨g2,2,none⟩ (.slice cA cn cc)).setCell ⟨g2,3,none⟩ (.bool s0.ref)) g2 #[.int .i64 s0.next,.slice hA hn hc,.slice cA cn cc,.bool s0.ref] 74 from(((HBa2.out.setAt 0 _).setAt 1 _).setAt 2 _).setAt 3 _)
   obtain⟨wf,hwf⟩:∃x,(((wa.setCell ⟨g2,0,none⟩ (.int .i64 s0.next)).setCell ⟨g2,1,none⟩ (.slice hA hn hc)).setCell ⟨g2,2,none⟩ (.slice cA cn cc)).setCell ⟨g2,3,none⟩ (.bool s0.ref)=x:=⟨_,rfl⟩
   rw[hwf] at HKb HBb2 ⊢
   clear hwf
   have HBb1:=hid (show Box wf g1 #[.int .i64 y1,.bool y2,.slice yN yn ym,str y3,.int .i64 y4,.slice yA y5 yd] 27 from HBa1.out.kept HKb.out (by have:=HG.out;simp;omega))
   have HK:=hid (show Kept [g1,g2] w5 wf from(HKa.out.more (by simp)).trans (HKb.out.more (by simp)))
   refine WM.done ?_
   obtain⟨⟨r0,r1,r2,r3,r4,r5⟩,-,hz⟩:=boxF6 HBb1.out
   obtain⟨⟨c0,c1,c2,c3⟩,-,hz2⟩:=box4l HBb2.out
   clear HBa1 HBa2 HKa HKb
   go_wp2_with fail
   refine bodyPost_ret (v:=.tuple #[kv y1 y2 yN yn ym y3 y4 yA y5 yd,.agg #[.int .i64 s0.next,.slice hA hn hc,.slice cA cn cc,.bool s0.ref]]) (by simp[results,Tryz.results36,go_sem,r0,r1,r2,r3,r4,r5,hz,c0,c1,c2,c3,hz2]) rfl ?_
   have hk:∀k,k<wd.heap.size→¬(W.heap.size≤k∧k<g)→wf.heap[k]?=wd.heap[k]?:=fun k h1 h2=>(HK.out.2 k (Nat.lt_of_lt_of_le h1 HE5.out.size) (by have:=HG.out;have:=HWG.out;simp;omega)).trans (HE5.out.block k h1)
   rw[HR.out]
   obtain⟨t1,t2⟩:=HS.out.told (N:=w.heap.size) (by have:=HG.out;omega) hk (Nat.le_trans HE5.out.size HK.out.1.size) HQ5.out
   refine⟨_,_,_,rfl,?_,t1,t2,?_⟩
   ·exact HU5.out.sub (gpv_mono HK.out.1.size fun k h1 h2=>⟨by have h3:wd.heap.size≤k:=h2;have:=HG.out;have:=HSW.out;unfold outer;omega,HK.out.2 k h1 (by have h3:wd.heap.size≤k:=h2;have:=HG.out;have:=HSW.out;simp;omega)⟩)
   ·exact Below.trans (B:=w.heap.size) E.out (HK.out.below (X:=[g1,g2]) E.out.size (by intro x hx;simp at hx;have:=HG.out;omega))
  ·rw[hrf] at c3
   have HNO:=hid (show ¬(M.kIs t=true∧(M.lfT t (M.ls0 next)).2.ref=false) from by rw[HLF.out];rintro⟨-,h⟩;rw[hrf] at h;cases h)
   obtain⟨⟨b0,b1,b2,b3,b4,b5⟩,-,-⟩:=boxF6 HB0.out
   go_wp2_with fail
   have HSW:=hid HSZ.out
   refine(ownT_n (M.kcnt t+1) (Nat.lt_succ_self _) HC.out HF.out (HQ.out.up (HEW.out.trans E.out))).mono ?_
   rintro e w5 ⟨u5,rfl,hu5,hb⟩
   obtain⟨y1,y2,yN,yn,ym,y3,y4,yA,y5,yd,rfl⟩:=hu5.kvs
   have HU5:=hid hu5
   replace HB1:=hid (HB1.out.up hb)
   replace HB2:=hid (HB2.out.up hb)
   replace E:=hid (show Ext w w5 from E.out.trans hb)
   clear hu5 hb b0 b1 b2 b3 b4 b5
   obtain⟨⟨r0,r1,r2,r3,r4,r5⟩,⟨f0,f1,f2,f3,f4,f5⟩,hz⟩:=boxF6 HB1.out
   obtain⟨⟨c0,c1,c2,c3⟩,⟨e0,e1,e2,e3⟩,hz2⟩:=box4l HB2.out
   have hn12:g1≠g2:=by have:=HG.out;omega
   have hn21:g2≠g1:=Ne.symm hn12
   go_wp2_with fail
   refine bodyPost_ret (v:=.tuple #[kv y1 y2 yN yn ym y3 y4 yA y5 yd,.agg #[.int .i64 next,.slice none 0 0,.slice none 0 0,.bool false]]) (by simp[results,Tryz.results36,go_sem,r0,r1,r2,r3,r4,r5,hz,c0,c1,c2,c3,hz2,hn12,hn21]) rfl ?_
   have hKa:Kept [g1,g2] w5 (put6 w5 g1 (.int .i64 y1) (.bool y2) (.slice yN yn ym) (str y3) (.int .i64 y4) (.slice yA y5 yd)):=put6_kept.more (by simp)
   have hK:=(((hKa.setIn (k:=g2) (o:=0) (u:=.int .i64 next) (by simp)).setIn (k:=g2) (o:=1) (u:=.slice none 0 0) (by simp)).setIn (k:=g2) (o:=2) (u:=.slice none 0 0) (by simp)).setIn (k:=g2) (o:=3) (u:=.bool false) (by simp)
   have HR:=hid (show M.lifted t next=(t,M.ls0 next) from by unfold M.lifted;exact if_neg fun h=>HNO.out h)
   rw[HR.out]
   refine⟨_,_,_,rfl,?_,Tms.nil _,OwnL.nil _ _ _ _,?_⟩
   ·exact HU5.out.sub (gpv_mono hK.1.size fun k h1 h2=>⟨by have h3:_≤k:=h2;have:=HG.out;have:=HSW.out;unfold outer;omega,hK.2 k h1 (by have h3:_≤k:=h2;have:=HG.out;have:=HSW.out;simp;omega)⟩)
   ·exact Below.trans (B:=w.heap.size) E.out (hK.below (X:=[g1,g2]) E.out.size (by intro x hx;simp at hx;have:=HG.out;omega))
 ·have hI2:M.kIs t=false:=by simpa using hI
  rw[hI2]
  have HNO:=hid (show ¬(M.kIs t=true∧(M.lfT t (M.ls0 next)).2.ref=false) from fun h=>hI h.1)
  clear b0 b1 b2 b3 b4 b5
  obtain⟨⟨b0,b1,b2,b3,b4,b5⟩,-,-⟩:=boxF6 HB0.out
  go_wp2_with fail
  have HSW:=hid HSZ.out
  refine(ownT_n (M.kcnt t+1) (Nat.lt_succ_self _) HC.out HF.out (HQ.out.up (HEW.out.trans E.out))).mono ?_
  rintro e w5 ⟨u5,rfl,hu5,hb⟩
  obtain⟨y1,y2,yN,yn,ym,y3,y4,yA,y5,yd,rfl⟩:=hu5.kvs
  have HU5:=hid hu5
  replace HB1:=hid (HB1.out.up hb)
  replace HB2:=hid (HB2.out.up hb)
  replace E:=hid (show Ext w w5 from E.out.trans hb)
  clear hu5 hb b0 b1 b2 b3 b4 b5
  obtain⟨⟨r0,r1,r2,r3,r4,r5⟩,⟨f0,f1,f2,f3,f4,f5⟩,hz⟩:=boxF6 HB1.out
  obtain⟨⟨c0,c1,c2,c3⟩,⟨e0,e1,e2,e3⟩,hz2⟩:=box4l HB2.out
  have hn12:g1≠g2:=by have:=HG.out;omega
  have hn21:g2≠g1:=Ne.symm hn12
  go_wp2_with fail
  refine bodyPost_ret (v:=.tuple #[kv y1 y2 yN yn ym y3 y4 yA y5 yd,.agg #[.int .i64 next,.slice none 0 0,.slice none 0 0,.bool false]]) (by simp[results,Tryz.results36,go_sem,r0,r1,r2,r3,r4,r5,hz,c0,c1,c2,c3,hz2,hn12,hn21]) rfl ?_
  have hKa:Kept [g1,g2] w5 (put6 w5 g1 (.int .i64 y1) (.bool y2) (.slice yN yn ym) (str y3) (.int .i64 y4) (.slice yA y5 yd)):=put6_kept.more (by simp)
  have hK:=(((hKa.setIn (k:=g2) (o:=0) (u:=.int .i64 next) (by simp)).setIn (k:=g2) (o:=1) (u:=.slice none 0 0) (by simp)).setIn (k:=g2) (o:=2) (u:=.slice none 0 0) (by simp)).setIn (k:=g2) (o:=3) (u:=.bool false) (by simp)
  have HR:=hid (show M.lifted t next=(t,M.ls0 next) from by unfold M.lifted;exact if_neg fun h=>HNO.out h)
  rw[HR.out]
  refine⟨_,_,_,rfl,?_,Tms.nil _,OwnL.nil _ _ _ _,?_⟩
  ·exact HU5.out.sub (gpv_mono hK.1.size fun k h1 h2=>⟨by have h3:_≤k:=h2;have:=HG.out;have:=HSW.out;unfold outer;omega,hK.2 k h1 (by have h3:_≤k:=h2;have:=HG.out;have:=HSW.out;simp;omega)⟩)
  ·exact Below.trans (B:=w.heap.size) E.out (hK.below (X:=[g1,g2]) E.out.size (by intro x hx;simp at hx;have:=HG.out;omega))
end Go.Proofs.YtoenjbkmiphhoaaGreatDoor.Q
