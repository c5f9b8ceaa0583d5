/-
  The reference of package value: Is, May.
-/
import Derived.Test.YtoenjbkmiphhoaaGreatDoorS46
import Derived.Test.YtoenjbkmiphhoaaGreatDoorS27
namespace Go.Proofs.YtoenjbkmiphhoaaGreatDoor.Q
set_option linter.unusedSimpArgs false
set_option linter.unusedVariables false
open Go.RowKit
theorem ext_end {a b:World}(h:Ext a b): Ext b b:=Ext.refl b
set_option maxHeartbeats 40000000 in
set_option maxRecDepth 20000 in
theorem xIs_n {l:List M.Fn}{v:Value}{w:World}(h:FnList w l v)(hl:∀f∈l,f.sg.name.length≤1000000000000): Calls Tryz.prog 11 #[v] w (GivesB w (M.mIs l)):=by
 obtain⟨A,c,rfl⟩:=h.shape
 obtain⟨hn,hl2,hl3⟩:=h.le
 obtain⟨n,hn'⟩:∃n,l.length=n:=⟨_,rfl⟩
 rw[hn'] at h hl2 ⊢
 obtain⟨R,hRR⟩:∃R,M.mIs l=R:=⟨_,rfl⟩
 rw[hRR]
 have HRR:=hid hRR
 have HL:=hid h
 have HN:=hid hn'
 have HM:=hid hl
 clear h hl hRR hn' hn
 go_enter Tryz.func11,Tryz.ntmps11
 go_wp2_with fail
 go_loopw[3,4,5,6] (fun i _ _ _ wr=>∃k:Nat,k≤n∧i=.int .i64 k∧Hid ((∀j,j<k→M.okAt l j=true)∧Ext w wr)) (fun i _ _ _ _=>n-(intOf i).toNat)
 case atStart=>exact⟨0,Nat.zero_le _,rfl,fun j hj=>absurd hj (Nat.not_lt_zero _),Ext.refl _⟩
 case round=>
  obtain⟨k,hk,rfl,hR⟩:=hrel
  have HT:=hid hR.out.1
  have E:=hid hR.out.2
  clear hR
  rcases Nat.lt_or_ge k n with hlt|hge
  case inr=>
   obtain rfl:k=n:=by omega
   have HFF:=hid (show R=true from HRR.out.symm.trans (M.mIs_true.2 (by rw[HN.out];exact HT.out)))
   go_wp2
   go_ret
   exact⟨by rw[HFF.out];rfl,E.out⟩
  have hlt':(k:Int)<(n:Int):=by omega
  obtain⟨f,hf⟩:∃f,l[k]?=some f:=⟨_,List.getElem?_eq_getElem (by rw[HN.out];exact hlt)⟩
  obtain⟨ad,A1,n1,c1,B,m,d,N,nn,nc,rfl,⟨⟨r0,r1,r2⟩,r3,r4,r5,r6⟩,hi,hrw,hnum⟩:=(HL.out.up E.out).get hf
  obtain⟨b1,hb1⟩:∃b,M.ksig f.sg=b:=⟨_,rfl⟩
  obtain⟨b2,hb2⟩:∃b,M.vIs f.els f.sg.ret=b:=⟨_,rfl⟩
  have hn1:=hi.le.1
  have HC1:=hid (show ∀w',Ext wr w'→Calls Tryz.prog 34 #[sgv f.sg.name A1 n1 c1 f.sg.ret] w' (GivesB w' b1) from fun w' e=>hb1▸kIsSig_n (s:=f.sg) ⟨A1,c1,by rw[hn1],hn1▸hi.up e⟩ (HM.out f (List.mem_of_getElem? hf)))
  have HC2:=hid (show ∀w',Ext wr w'→Calls Tryz.prog 35 #[vv f.els.1 f.els.2.1 N nn nc,.int .i64 f.sg.ret] w' (GivesB w' b2) from fun w' e=>hb2▸xIsValue_n (x:=f.els) ⟨N,nn,nc,rfl,LNum.up hnum e⟩)
  have HF:=hid hf
  have HFN:=hid (show M.fnIs f=(b1&&(b2&&f.rows.all (M.rowIs f.sg))) by rw[←hb1,←hb2];rfl)
  have HI:=hid (And.intro hn1 hi)
  have HW:=hid (And.intro hrw.le.1 hrw)
  have EB:=hid (Ext.alloc wr (.cells #[str f.sg.name,.slice A1 n1 c1,.int .i64 f.sg.ret,.slice B m d,.int .i64 f.els.1,.bool f.els.2.1,.slice N nn nc] 65))
  have HB0:=hid (Box.new wr #[str f.sg.name,.slice A1 n1 c1,.int .i64 f.sg.ret,.slice B m d,.int .i64 f.els.1,.bool f.els.2.1,.slice N nn nc] 65)
  clear hf hb1 hb2 hi hrw hnum hn1
  go_upto_region 5 with (fail)
  refine vwp_at (fun W=>Box W wr.heap.size #[str f.sg.name,.slice A1 n1 c1,.int .i64 f.sg.ret,.slice B m d,.int .i64 f.els.1,.bool f.els.2.1,.slice N nn nc] 65∧Ext wr W) ⟨HB0.out,EB.out⟩ ?_
  clear HB0 EB r0 r1 r2 r3 r4 r5 r6
  intro W ⟨hb0,he⟩
  obtain⟨g0,hg0⟩:∃g,wr.heap.size=g:=⟨_,rfl⟩
  rw[hg0] at hb0 ⊢
  have HB:=hid hb0
  have EW:=hid he
  clear hb0 he hg0
  cases b1
  case false=>
   have HOK:=hid (show M.okAt l k=false by rw[M.okAt_some HF.out,HFN.out,Bool.false_and,Bool.and_false])
   refine wp_region_D [(0,0),(1,0),(2,1),(3,0),(4,0),(5,0),(6,0),(7,0),(8,0),(9,0),(10,0),(11,0),(12,0),(13,0),(14,0),(15,0),(16,0),(17,0),(18,0),(19,0),(20,0),(21,0),(22,0),(23,0),(24,0),(25,0),(26,0),(27,1),(28,0),(29,0)] fun wd hb=>?_
   replace EW:=hid (EW.out.trans hb)
   replace HB:=hid (HB.out.up hb)
   clear hb
   refine WE.p 17 (.pointer (some ⟨g0,0,none⟩)) ?_
   simp only[pX]
   refine WE.q 18 (sgv f.sg.name A1 n1 c1 f.sg.ret) rfl (fun w' hk=>by obtain⟨⟨x0,x1,x2,x3,x4,x5,x6⟩,-⟩:=box7v (HB.out.up hk);go_simp) ?_
   simp only[pX]
   refine WE.c 19 ((HC1.out _ EW.out).mono ?_)
   rintro e w6 ⟨rfl,hb⟩
   refine⟨_,rfl,hb,?_⟩
   replace EW:=hid (EW.out.trans hb)
   replace HB:=hid (HB.out.up hb)
   clear hb
   simp only[pX]
   refine WE.p 20 (.bool true) ?_
   simp only[pX]
   refine WE.p 21 (.bool true) ?_
   simp only[pX]
   refine WE.s 22 ?_
   simp only[pX]
   refine WE.s 23 ?_
   simp only[pX]
   refine WE.s 24 ?_
   simp only[pX]
   refine WE.s 25 ?_
   simp only[pX]
   refine WE.s 26 ?_
   simp only[pX]
   refine WE.s 27 ?_
   simp only[pX]
   refine WE.s 28 ?_
   simp only[pX]
   refine WE.s 29 ?_
   simp only[pX]
   refine WE.s 30 ?_
   simp only[pX]
   refine WE.s 31 ?_
   simp only[pX]
   refine WE.s 32 ?_
   simp only[pX]
   refine WE.s 33 ?_
   simp only[pX]
   refine WE.s 34 ?_
   simp only[pX]
   refine WE.s 35 ?_
   simp only[pX]
   refine WE.s 36 ?_
   simp only[pX]
   refine WE.p 37 (.bool true) ?_
   simp only[pX]
   refine WE.p 38 (.bool true) ?_
   simp only[pX]
   refine WE.s 39 ?_
   simp only[pX]
   refine WE.s 40 ?_
   simp only[pX]
   refine WE.s 41 ?_
   simp only[pX]
   refine WE.s 42 ?_
   simp only[pX]
   refine WE.s 43 ?_
   simp only[pX]
   refine WE.t 44 ?_
   simp only[pX]
   refine WE.s 45 ?_
   simp only[pX]
   refine WE.p 46 (.bool true) ?_
   simp only[pX]
   refine WE.done ?_
   have HFF:=hid (show R=false from HRR.out.symm.trans (M.not_mIs (by rw[HN.out];exact hlt) (HOK.out)))
   have Ew:=hid (E.out.trans EW.out)
   go_wp2
   go_ret
   exact⟨by rw[HFF.out];rfl,Ew.out⟩
  rcases Nat.eq_zero_or_pos k with h0|h0
  ·have HOK:=hid (show M.okAt l k=M.fnIs f by rw[M.okAt_some HF.out,decide_eq_true h0,Bool.true_or,Bool.true_and])
   have HK0:=hid h0
   clear h0
   refine wp_region_D [(0,0),(1,0),(2,1),(3,0),(4,0),(5,0),(6,0),(7,0),(8,0),(9,0),(10,0),(11,0),(12,0),(13,0),(14,0),(15,0),(16,0),(17,0),(18,0),(19,0),(20,0),(21,0),(22,0),(23,0),(24,0),(25,0),(26,0),(27,1),(28,0),(29,0)] fun wd hb=>?_
   replace EW:=hid (EW.out.trans hb)
   replace HB:=hid (HB.out.up hb)
   clear hb
   refine WE.p 17 (.pointer (some ⟨g0,0,none⟩)) ?_
   simp only[pX]
   refine WE.q 18 (sgv f.sg.name A1 n1 c1 f.sg.ret) rfl (fun w' hk=>by obtain⟨⟨x0,x1,x2,x3,x4,x5,x6⟩,-⟩:=box7v (HB.out.up hk);go_simp) ?_
   simp only[pX]
   refine WE.c 19 ((HC1.out _ EW.out).mono ?_)
   rintro e w6 ⟨rfl,hb⟩
   refine⟨_,rfl,hb,?_⟩
   replace EW:=hid (EW.out.trans hb)
   replace HB:=hid (HB.out.up hb)
   clear hb
   simp only[pX]
   refine WE.p 20 (.bool false) ?_
   simp only[pX]
   refine WE.p 21 (.bool false) ?_
   simp only[pX]
   refine WE.p 22 (.int .i64 (k:Int)) ?_
   simp only[pX]
   refine WE.q 23 (.bool false) rfl (fun w' hk=>by have h0:=HK0.out;go_simp;try omega) ?_
   simp only[pX]
   refine WE.p 24 (.bool false) ?_
   simp only[pX]
   refine WE.s 25 ?_
   simp only[pX]
   refine WE.s 26 ?_
   simp only[pX]
   refine WE.s 27 ?_
   simp only[pX]
   refine WE.s 28 ?_
   simp only[pX]
   refine WE.s 29 ?_
   simp only[pX]
   refine WE.s 30 ?_
   simp only[pX]
   refine WE.s 31 ?_
   simp only[pX]
   refine WE.s 32 ?_
   simp only[pX]
   refine WE.s 33 ?_
   simp only[pX]
   refine WE.s 34 ?_
   simp only[pX]
   refine WE.s 35 ?_
   simp only[pX]
   refine WE.q 36 (.bool false) rfl (fun w' hk=>by go_simp) ?_
   simp only[pX]
   refine WE.q 37 (.bool false) rfl (fun w' hk=>by go_simp) ?_
   simp only[pX]
   refine WE.p 38 (.bool false) ?_
   simp only[pX]
   refine WE.p 39 (.pointer (some ⟨g0,4,none⟩)) ?_
   simp only[pX]
   refine WE.q 40 (vv f.els.1 f.els.2.1 N nn nc) rfl (fun w' hk=>by obtain⟨⟨x0,x1,x2,x3,x4,x5,x6⟩,-⟩:=box7v (HB.out.up hk);go_simp) ?_
   simp only[pX]
   refine WE.p 41 (.pointer (some ⟨g0,0,none⟩)) ?_
   simp only[pX]
   refine WE.p 42 (.pointer (some ⟨g0,2,none⟩)) ?_
   simp only[pX]
   refine WE.q 43 (.int .i64 f.sg.ret) rfl (fun w' hk=>by obtain⟨⟨x0,x1,x2,x3,x4,x5,x6⟩,-⟩:=box7v (HB.out.up hk);go_simp) ?_
   simp only[pX]
   refine WE.c 44 ((HC2.out _ EW.out).mono ?_)
   rintro e w6 ⟨rfl,hb⟩
   refine⟨_,rfl,hb,?_⟩
   replace EW:=hid (EW.out.trans hb)
   replace HB:=hid (HB.out.up hb)
   clear hb
   simp only[pX]
   refine WE.p 45 (.bool (!b2)) ?_
   simp only[pX]
   refine WE.p 46 (.bool (!b2)) ?_
   simp only[pX]
   refine WE.done ?_
   cases b2
   case false=>
    have HFF:=hid (show R=false from HRR.out.symm.trans (M.not_mIs (by rw[HN.out];exact hlt) (HOK.out.trans (by rw[HFN.out];rfl))))
    have Ew:=hid (E.out.trans EW.out)
    go_wp2
    go_ret
    exact⟨by rw[HFF.out];rfl,Ew.out⟩
   obtain⟨-,hm2,hm3⟩:=HW.out.2.le
   obtain⟨-,hi2,hi3⟩:=HI.out.2.le
   rw[Bool.true_and,Bool.true_and] at HFN
   obtain⟨WX,hWX⟩:∃W,W=w6:=⟨_,rfl⟩
   rw[←hWX] at EW HB ⊢
   clear hWX
   have HBW:=hid HB.out
   obtain⟨⟨x0,x1,x2,x3,x4,x5,x6⟩,-⟩:=box7v HB.out
   go_wp2_with fail
   clear x0 x1 x2 x3 x4 x5 x6
   go_loopw[5,6] (fun i _ wq=>∃k2:Nat,k2≤m∧i=.int .i64 k2∧Hid ((f.rows.take k2).all (M.rowIs f.sg)=true∧Ext WX wq)) (fun i _ _=>m-(intOf i).toNat)
   case atStart=>exact⟨0,Nat.zero_le _,rfl,by simp,Ext.refl _⟩
   case round=>
    obtain⟨k2,hk2,rfl,hR⟩:=hrel
    have HT2:=hid hR.out.1
    have E2:=hid hR.out.2
    clear hR
    have HB2:=hid (HBW.out.up E2.out)
    obtain⟨⟨x0,x1,x2,x3,x4,x5,x6⟩,-⟩:=box7v HB2.out
    rcases Nat.lt_or_ge k2 m with jlt|jge
    case inr=>
     obtain rfl:k2=m:=by omega
     have HOK2:=hid (show M.okAt l k=true from HOK.out.trans (by have h1:=HT2.out;rw[show k2=f.rows.length from HW.out.1,List.take_length] at h1;rw[HFN.out,h1]))
     go_wp2_with fail
     clear x0 x1 x2 x3 x4 x5 x6
     go_roundw
     case rel=>exact⟨k+1,by omega,by simp,fun j hj=>(by
      rcases Nat.lt_or_ge j k with h|h
      ·exact HT.out j h
      ·obtain rfl:j=k:=by omega
       exact HOK2.out),(E.out.trans EW.out).trans E2.out⟩
     case measure=>simp[intOf];omega
    have jlt':(k2:Int)<(m:Int):=by omega
    obtain⟨r,hr⟩:∃r,f.rows[k2]?=some r:=⟨_,List.getElem?_eq_getElem (by have:=HW.out.1;omega)⟩
    obtain⟨rd,C,cn,cc,D,dn,dc,rfl,⟨s0,s1,s2,s3⟩,hvl,hnum⟩:=(HW.out.2.up (EW.out.trans E2.out)).get hr
    have hcn:=hvl.count
    obtain⟨a2,ha2⟩:∃b,M.vIs r.2 f.sg.ret=b:=⟨_,rfl⟩
    have HD2:=hid (fun w' e=>(show Calls Tryz.prog 35 #[vv r.2.1 r.2.2.1 D dn dc,.int .i64 f.sg.ret] w' (GivesB w' a2) from ha2▸xIsValue_n (x:=r.2) ⟨D,dn,dc,rfl,LNum.up hnum e⟩))
    have HX:=hid hr
    have HVL:=hid hvl
    have HCN:=hid hcn
    have HA2:=hid ha2
    have HSS:=hid (And.intro s0 (And.intro s1 (And.intro s2 s3)))
    clear hr hvl hnum hcn ha2 s0 s1 s2 s3
    go_upto_region 10 with (fail)
    clear x0 x1 x2 x3 x4 x5 x6
    have E3:=hid (ext_end E2.out)
    obtain⟨e1,he1⟩:∃b,((cn:Int) != (n1:Int))=b:=⟨_,rfl⟩
    have HE1:=hid he1
    clear he1
    refine wp_region_D [(0,0),(1,0),(2,0),(3,0),(4,0),(5,0),(6,0),(7,0),(8,0),(9,0),(10,0),(11,0),(12,0),(13,0),(14,0),(15,0),(16,0),(17,0),(18,0),(19,0),(20,0),(21,0),(22,1),(23,0),(24,0)] fun wd hb=>?_
    replace E3:=hid (E3.out.trans hb)
    clear hb
    refine WE.p 54 (.pointer (some ⟨g0,3,none⟩)) ?_
    simp only[pX]
    refine WE.q 55 (.slice (some rd) m d) rfl (fun w' hk=>by obtain⟨⟨x0,x1,x2,x3,x4,x5,x6⟩,-⟩:=box7v (HB2.out.up (E3.out.trans hk));go_simp) ?_
    simp only[pX]
    refine WE.p 56 (.int .i64 (k2:Int)) ?_
    simp only[pX]
    refine WE.q 57 (.pointer (some (rd.add (k2*4)))) rfl (fun w' hk=>by have jlt':(k2:Int)<(m:Int):=(by omega);go_simp) ?_
    simp only[pX]
    refine WE.q 58 (.pointer (some (rd.add (k2*4)))) rfl (fun w' hk=>by go_simp) ?_
    simp only[pX]
    refine WE.q 59 (.slice C cn cc) rfl (fun w' hk=>by have y0:=(E3.out.trans hk).cell HSS.out.1;go_simp) ?_
    simp only[pX]
    refine WE.q 60 (.int .i64 (cn:Int)) rfl (fun w' hk=>by go_simp) ?_
    simp only[pX]
    refine WE.p 61 (.pointer (some ⟨g0,0,none⟩)) ?_
    simp only[pX]
    refine WE.p 62 (.pointer (some ⟨g0,1,none⟩)) ?_
    simp only[pX]
    refine WE.q 63 (.slice A1 n1 c1) rfl (fun w' hk=>by obtain⟨⟨x0,x1,x2,x3,x4,x5,x6⟩,-⟩:=box7v (HB2.out.up (E3.out.trans hk));go_simp) ?_
    simp only[pX]
    refine WE.q 64 (.int .i64 (n1:Int)) rfl (fun w' hk=>by go_simp) ?_
    simp only[pX]
    refine WE.q 65 (.bool e1) rfl (fun w' hk=>by have he:=HE1.out;go_simp) ?_
    simp only[pX]
    refine WE.p 66 (.bool e1) ?_
    simp only[pX]
    cases e1
    case true=>
     refine WE.s 67 ?_
     simp only[pX]
     refine WE.s 68 ?_
     simp only[pX]
     refine WE.s 69 ?_
     simp only[pX]
     refine WE.s 70 ?_
     simp only[pX]
     refine WE.s 71 ?_
     simp only[pX]
     refine WE.s 72 ?_
     simp only[pX]
     refine WE.s 73 ?_
     simp only[pX]
     refine WE.s 74 ?_
     simp only[pX]
     refine WE.s 75 ?_
     simp only[pX]
     refine WE.t 76 ?_
     simp only[pX]
     refine WE.s 77 ?_
     simp only[pX]
     refine WE.p 78 (.bool true) ?_
     simp only[pX]
     refine WE.done ?_
     have HFF:=hid (show R=false from HRR.out.symm.trans (M.not_mIs (by rw[HN.out];exact hlt) (HOK.out.trans (by rw[HFN.out];exact M.not_all HX.out (by unfold M.rowIs;rw[M.vIss_len (by have h1:=HE1.out;have h2:=HCN.out.1;have h3:=HI.out.1;simp at h1;omega)];rfl)))))
     have Ew:=hid (((E.out.trans EW.out).trans E2.out).trans E3.out)
     go_wp2
     go_ret
     exact⟨by rw[HFF.out];rfl,Ew.out⟩
    refine WE.p 67 (.pointer (some ⟨g0,3,none⟩)) ?_
    simp only[pX]
    refine WE.q 68 (.slice (some rd) m d) rfl (fun w' hk=>by obtain⟨⟨x0,x1,x2,x3,x4,x5,x6⟩,-⟩:=box7v (HB2.out.up (E3.out.trans hk));go_simp) ?_
    simp only[pX]
    refine WE.p 69 (.int .i64 (k2:Int)) ?_
    simp only[pX]
    refine WE.q 70 (.pointer (some (rd.add (k2*4)))) rfl (fun w' hk=>by have jlt':(k2:Int)<(m:Int):=(by omega);go_simp) ?_
    simp only[pX]
    refine WE.q 71 (.pointer (some ⟨(rd.add (k2*4)).block,(rd.add (k2*4)).off+1,none⟩)) rfl (fun w' hk=>by go_simp) ?_
    simp only[pX]
    refine WE.q 72 (vv r.2.1 r.2.2.1 D dn dc) rfl (fun w' hk=>by have ee:=E3.out.trans hk;have y1:=ee.cell HSS.out.2.1;have y2:=ee.cell HSS.out.2.2.1;have y3:=ee.cell HSS.out.2.2.2;go_simp) ?_
    simp only[pX]
    refine WE.p 73 (.pointer (some ⟨g0,0,none⟩)) ?_
    simp only[pX]
    refine WE.p 74 (.pointer (some ⟨g0,2,none⟩)) ?_
    simp only[pX]
    refine WE.q 75 (.int .i64 f.sg.ret) rfl (fun w' hk=>by obtain⟨⟨x0,x1,x2,x3,x4,x5,x6⟩,-⟩:=box7v (HB2.out.up (E3.out.trans hk));go_simp) ?_
    simp only[pX]
    refine WE.c 76 ((HD2.out _ E3.out).mono ?_)
    rintro e w6 ⟨rfl,hb⟩
    refine⟨_,rfl,hb,?_⟩
    replace E3:=hid (E3.out.trans hb)
    clear hb
    simp only[pX]
    refine WE.p 77 (.bool (!a2)) ?_
    simp only[pX]
    refine WE.p 78 (.bool (!a2)) ?_
    simp only[pX]
    refine WE.done ?_
    cases a2
    case false=>
     have HFF:=hid (show R=false from HRR.out.symm.trans (M.not_mIs (by rw[HN.out];exact hlt) (HOK.out.trans (by rw[HFN.out];exact M.not_all HX.out (by unfold M.rowIs;rw[HA2.out,Bool.and_false])))))
     have Ew:=hid (((E.out.trans EW.out).trans E2.out).trans E3.out)
     go_wp2
     go_ret
     exact⟨by rw[HFF.out];rfl,Ew.out⟩
    obtain⟨WY,hWY⟩:∃W,W=w6:=⟨_,rfl⟩
    rw[←hWY] at E3 ⊢
    clear hWY
    have hcc:=HCN.out.2
    go_wp2_with fail
    go_loopw[6] (fun i wp=>∃j:Nat,j≤n1∧i=.int .i64 j∧Hid (M.vIss (r.1.take j) (f.sg.args.take j)=true∧Ext WY wp)) (fun i _=>n1-(intOf i).toNat)
    case atStart=>exact⟨0,Nat.zero_le _,rfl,by rfl,Ext.refl _⟩
    case round=>
     obtain⟨j,hj,rfl,hR⟩:=hrel
     have HT3:=hid hR.out.1
     have E4:=hid (E3.out.trans hR.out.2)
     have EY:=hid hR.out.2
     clear hR
     obtain⟨⟨x0,x1,x2,x3,x4,x5,x6⟩,-⟩:=box7v (HB2.out.up E4.out)
     rcases Nat.lt_or_ge j n1 with ilt|ige
     case inr=>
      obtain rfl:j=n1:=by omega
      have HRW:=hid (show M.rowIs f.sg r=true by
       have h1:=HT3.out
       have h2:=HCN.out.1
       have h3:=HI.out.1
       have h4:=HE1.out
       have h5:r.1.length=j:=by simp at h4;omega
       rw[←h5,List.take_length,h5,h3,List.take_length] at h1
       unfold M.rowIs
       rw[h1,HA2.out];rfl)
      go_wp2_with fail
      clear x0 x1 x2 x3 x4 x5 x6
      go_roundw
      case rel=>exact⟨k2+1,by omega,by simp,by rw[M.all_take HX.out,HT2.out,HRW.out];rfl,E2.out.trans E4.out⟩
      case measure=>simp[intOf];omega
     have ilt':(j:Int)<(n1:Int):=by omega
     have hjc:j<cn:=by have h1:=HE1.out;simp at h1;omega
     obtain⟨x,hx⟩:∃x,r.1[j]?=some x:=⟨_,List.getElem?_eq_getElem (by have:=HCN.out.1;omega)⟩
     obtain⟨vd,XN,xn,xc,rfl,⟨v0,v1,v2⟩,hxv⟩:=(HVL.out.up E4.out).at_ hx
     obtain⟨ia,y,rfl,hy,hyc⟩:=(HI.out.2.up ((EW.out.trans E2.out).trans E4.out)).get ilt
     obtain⟨b3,hb3⟩:∃b,M.vIs x y=b:=⟨_,rfl⟩
     have HD3:=hid (fun w' e=>(show Calls Tryz.prog 35 #[vv x.1 x.2.1 XN xn xc,.int .i64 y] w' (GivesB w' b3) from hb3▸xIsValue_n (hxv.up e)))
     have HXX:=hid (And.intro hx (And.intro hy hb3))
     have HVC:=hid (And.intro v0 (And.intro v1 (And.intro v2 hyc)))
     have jlt':(k2:Int)<(m:Int):=by omega
     have hjc':(j:Int)<(cn:Int):=by omega
     clear hx hy hb3 hxv v0 v1 v2 hyc
     go_upto_region 15 with (fail)
     clear x0 x1 x2 x3 x4 x5 x6
     have E5:=hid (ext_end EY.out)
     refine wp_region_D [(0,0),(1,0),(2,0),(3,0),(4,0),(5,0),(6,0),(7,0),(8,0),(9,0),(10,0),(11,0),(12,0),(13,0),(14,0),(15,1),(16,0)] fun wd hb=>?_
     replace E5:=hid (E5.out.trans hb)
     clear hb
     refine WE.p 87 (.pointer (some ⟨g0,3,none⟩)) ?_
     simp only[pX]
     refine WE.q 88 (.slice (some rd) m d) rfl (fun w' hk=>by obtain⟨⟨x0,x1,x2,x3,x4,x5,x6⟩,-⟩:=box7v (HB2.out.up (E4.out.trans (E5.out.trans hk)));go_simp) ?_
     simp only[pX]
     refine WE.p 89 (.int .i64 (k2:Int)) ?_
     simp only[pX]
     refine WE.q 90 (.pointer (some (rd.add (k2*4)))) rfl (fun w' hk=>by go_simp) ?_
     simp only[pX]
     refine WE.q 91 (.pointer (some (rd.add (k2*4)))) rfl (fun w' hk=>by go_simp) ?_
     simp only[pX]
     refine WE.q 92 (.slice (some vd) cn cc) rfl (fun w' hk=>by have y0:=(E4.out.trans (E5.out.trans hk)).cell HSS.out.1;go_simp) ?_
     simp only[pX]
     refine WE.p 93 (.int .i64 (j:Int)) ?_
     simp only[pX]
     refine WE.q 94 (.pointer (some (vd.add (j*3)))) rfl (fun w' hk=>by go_simp) ?_
     simp only[pX]
     refine WE.q 95 (vv x.1 x.2.1 XN xn xc) rfl (fun w' hk=>by have ee:=E5.out.trans hk;have y1:=ee.cell HVC.out.1;have y2:=ee.cell HVC.out.2.1;have y3:=ee.cell HVC.out.2.2.1;go_simp) ?_
     simp only[pX]
     refine WE.p 96 (.pointer (some ⟨g0,0,none⟩)) ?_
     simp only[pX]
     refine WE.p 97 (.pointer (some ⟨g0,1,none⟩)) ?_
     simp only[pX]
     refine WE.q 98 (.slice (some ia) n1 c1) rfl (fun w' hk=>by obtain⟨⟨x0,x1,x2,x3,x4,x5,x6⟩,-⟩:=box7v (HB2.out.up (E4.out.trans (E5.out.trans hk)));go_simp) ?_
     simp only[pX]
     refine WE.p 99 (.int .i64 (j:Int)) ?_
     simp only[pX]
     refine WE.q 100 (.pointer (some (ia.add j))) rfl (fun w' hk=>by go_simp) ?_
     simp only[pX]
     refine WE.q 101 (.int .i64 y) rfl (fun w' hk=>by have y1:=(E5.out.trans hk).cell HVC.out.2.2.2;go_simp) ?_
     simp only[pX]
     refine WE.c 102 ((HD3.out _ E5.out).mono ?_)
     rintro e w6 ⟨rfl,hb⟩
     refine⟨_,rfl,hb,?_⟩
     replace E5:=hid (E5.out.trans hb)
     clear hb
     simp only[pX]
     refine WE.p 103 (.bool (!b3)) ?_
     simp only[pX]
     refine WE.done ?_
     cases b3
     case false=>
      have HFF:=hid (show R=false from HRR.out.symm.trans (M.not_mIs (by rw[HN.out];exact hlt) (HOK.out.trans (by rw[HFN.out];exact M.not_all HX.out (by unfold M.rowIs;rw[M.vIss_no HXX.out.1 HXX.out.2.1 HXX.out.2.2];rfl)))))
      have Ew:=hid ((((E.out.trans EW.out).trans E2.out).trans E4.out).trans E5.out)
      go_wp2
      go_ret
      exact⟨by rw[HFF.out];rfl,Ew.out⟩
     clear jlt' hjc hjc' ilt'
     go_wp2_with fail
     go_roundw
     case rel=>exact⟨j+1,by omega,by simp,by rw[M.vIss_take HXX.out.1 HXX.out.2.1,HT3.out,HXX.out.2.2];rfl,EY.out.trans E5.out⟩
     case measure=>simp[intOf];omega
  ·obtain⟨kp,hkp⟩:∃kp:Nat,kp=k-1:=⟨_,rfl⟩
   have hkp1:(k:Int)-1=(kp:Int):=by omega
   have hkp2:IntKind.i64.wrap (kp:Int)=(kp:Int):=by rw[IntKind.wrap_i64];omega
   have hkpn:(kp:Int)<(n:Int):=by omega
   have HK0:=hid h0
   obtain⟨g,hg⟩:∃g,l[k-1]?=some g:=⟨_,List.getElem?_eq_getElem (by rw[HN.out];omega)⟩
   have hg':l[kp]?=some g:=by rw[hkp];exact hg
   obtain⟨ad',A1',n1',c1',B',m',d',N',nn',nc',had,⟨⟨s0,-,-⟩,-⟩,-⟩:=(HL.out.up (E.out.trans EW.out)).get hg'
   have had':ad=ad':=Option.some.inj had
   rw[←had'] at s0
   have HS0:=hid s0
   obtain⟨q,hq⟩:∃q,Go.Op.bytesLess g.sg.name f.sg.name=q:=⟨_,rfl⟩
   have HOK0:=hid (show M.okAt l k=(q&&M.fnIs f) by rw[M.okAt_some HF.out,hg,decide_eq_false (show ¬k=0 by omega),Bool.false_or];rw[←hq])
   have HBL:=hid hq
   clear hkp hg hg' s0 had had' hq h0
   refine wp_region_D [(0,0),(1,0),(2,1),(3,0),(4,0),(5,0),(6,0),(7,0),(8,0),(9,0),(10,0),(11,0),(12,0),(13,0),(14,0),(15,0),(16,0),(17,0),(18,0),(19,0),(20,0),(21,0),(22,0),(23,0),(24,0),(25,0),(26,0),(27,1),(28,0),(29,0)] fun wd hb=>?_
   replace EW:=hid (EW.out.trans hb)
   replace HB:=hid (HB.out.up hb)
   replace HS0:=hid (hb.cell HS0.out)
   clear hb
   refine WE.p 17 (.pointer (some ⟨g0,0,none⟩)) ?_
   simp only[pX]
   refine WE.q 18 (sgv f.sg.name A1 n1 c1 f.sg.ret) rfl (fun w' hk=>by obtain⟨⟨x0,x1,x2,x3,x4,x5,x6⟩,-⟩:=box7v (HB.out.up hk);go_simp) ?_
   simp only[pX]
   refine WE.c 19 ((HC1.out _ EW.out).mono ?_)
   rintro e w6 ⟨rfl,hb⟩
   refine⟨_,rfl,hb,?_⟩
   replace EW:=hid (EW.out.trans hb)
   replace HB:=hid (HB.out.up hb)
   replace HS0:=hid (hb.cell HS0.out)
   clear hb
   simp only[pX]
   refine WE.p 20 (.bool false) ?_
   simp only[pX]
   refine WE.p 21 (.bool false) ?_
   simp only[pX]
   refine WE.p 22 (.int .i64 (k:Int)) ?_
   simp only[pX]
   refine WE.q 23 (.bool true) rfl (fun w' hk=>by have h0:=HK0.out;go_simp;try omega) ?_
   simp only[pX]
   refine WE.p 24 (.bool true) ?_
   simp only[pX]
   refine WE.p 25 (.slice (some ad) n c) ?_
   simp only[pX]
   refine WE.p 26 (.int .i64 (k:Int)) ?_
   simp only[pX]
   refine WE.q 27 (.int .i64 (kp:Int)) rfl (fun w' hk=>by go_simp) ?_
   simp only[pX]
   refine WE.q 28 (.pointer (some (ad.add (kp*7)))) rfl (fun w' hk=>by go_simp) ?_
   simp only[pX]
   refine WE.q 29 (.pointer (some (ad.add (kp*7)))) rfl (fun w' hk=>by go_simp) ?_
   simp only[pX]
   refine WE.q 30 (.pointer (some (ad.add (kp*7)))) rfl (fun w' hk=>by go_simp) ?_
   simp only[pX]
   refine WE.q 31 (str g.sg.name) rfl (fun w' hk=>by have x0:=hk.cell HS0.out;go_simp) ?_
   simp only[pX]
   refine WE.p 32 (.pointer (some ⟨g0,0,none⟩)) ?_
   simp only[pX]
   refine WE.p 33 (.pointer (some ⟨g0,0,none⟩)) ?_
   simp only[pX]
   refine WE.q 34 (str f.sg.name) rfl (fun w' hk=>by obtain⟨⟨x0,x1,x2,x3,x4,x5,x6⟩,-⟩:=box7v (HB.out.up hk);go_simp) ?_
   simp only[pX]
   refine WE.q 35 (.bool (!q)) rfl (fun w' hk=>by have hq:=HBL.out;go_simp) ?_
   simp only[pX]
   refine WE.q 36 (.bool (!q)) rfl (fun w' hk=>by go_simp) ?_
   simp only[pX]
   refine WE.q 37 (.bool (!q)) rfl (fun w' hk=>by go_simp) ?_
   simp only[pX]
   refine WE.p 38 (.bool (!q)) ?_
   simp only[pX]
   cases q
   case false=>
    refine WE.s 39 ?_
    simp only[pX]
    refine WE.s 40 ?_
    simp only[pX]
    refine WE.s 41 ?_
    simp only[pX]
    refine WE.s 42 ?_
    simp only[pX]
    refine WE.s 43 ?_
    simp only[pX]
    refine WE.t 44 ?_
    simp only[pX]
    refine WE.s 45 ?_
    simp only[pX]
    refine WE.p 46 (.bool true) ?_
    simp only[pX]
    refine WE.done ?_
    have HFF:=hid (show R=false from HRR.out.symm.trans (M.not_mIs (by rw[HN.out];exact hlt) (HOK0.out)))
    have Ew:=hid (E.out.trans EW.out)
    go_wp2
    go_ret
    exact⟨by rw[HFF.out];rfl,Ew.out⟩
   refine WE.p 39 (.pointer (some ⟨g0,4,none⟩)) ?_
   simp only[pX]
   refine WE.q 40 (vv f.els.1 f.els.2.1 N nn nc) rfl (fun w' hk=>by obtain⟨⟨x0,x1,x2,x3,x4,x5,x6⟩,-⟩:=box7v (HB.out.up hk);go_simp) ?_
   simp only[pX]
   refine WE.p 41 (.pointer (some ⟨g0,0,none⟩)) ?_
   simp only[pX]
   refine WE.p 42 (.pointer (some ⟨g0,2,none⟩)) ?_
   simp only[pX]
   refine WE.q 43 (.int .i64 f.sg.ret) rfl (fun w' hk=>by obtain⟨⟨x0,x1,x2,x3,x4,x5,x6⟩,-⟩:=box7v (HB.out.up hk);go_simp) ?_
   simp only[pX]
   refine WE.c 44 ((HC2.out _ EW.out).mono ?_)
   rintro e w6 ⟨rfl,hb⟩
   refine⟨_,rfl,hb,?_⟩
   replace EW:=hid (EW.out.trans hb)
   replace HB:=hid (HB.out.up hb)
   replace HS0:=hid (hb.cell HS0.out)
   clear hb
   simp only[pX]
   refine WE.p 45 (.bool (!b2)) ?_
   simp only[pX]
   refine WE.p 46 (.bool (!b2)) ?_
   simp only[pX]
   refine WE.done ?_
   have HOK:=hid (show M.okAt l k=M.fnIs f from HOK0.out)
   clear hkp1 hkp2 hkpn HS0
   cases b2
   case false=>
    have HFF:=hid (show R=false from HRR.out.symm.trans (M.not_mIs (by rw[HN.out];exact hlt) (HOK.out.trans (by rw[HFN.out];rfl))))
    have Ew:=hid (E.out.trans EW.out)
    go_wp2
    go_ret
    exact⟨by rw[HFF.out];rfl,Ew.out⟩
   obtain⟨-,hm2,hm3⟩:=HW.out.2.le
   obtain⟨-,hi2,hi3⟩:=HI.out.2.le
   rw[Bool.true_and,Bool.true_and] at HFN
   obtain⟨WX,hWX⟩:∃W,W=w6:=⟨_,rfl⟩
   rw[←hWX] at EW HB ⊢
   clear hWX
   have HBW:=hid HB.out
   obtain⟨⟨x0,x1,x2,x3,x4,x5,x6⟩,-⟩:=box7v HB.out
   go_wp2_with fail
   clear x0 x1 x2 x3 x4 x5 x6
   go_loopw[5,6] (fun i _ wq=>∃k2:Nat,k2≤m∧i=.int .i64 k2∧Hid ((f.rows.take k2).all (M.rowIs f.sg)=true∧Ext WX wq)) (fun i _ _=>m-(intOf i).toNat)
   case atStart=>exact⟨0,Nat.zero_le _,rfl,by simp,Ext.refl _⟩
   case round=>
    obtain⟨k2,hk2,rfl,hR⟩:=hrel
    have HT2:=hid hR.out.1
    have E2:=hid hR.out.2
    clear hR
    have HB2:=hid (HBW.out.up E2.out)
    obtain⟨⟨x0,x1,x2,x3,x4,x5,x6⟩,-⟩:=box7v HB2.out
    rcases Nat.lt_or_ge k2 m with jlt|jge
    case inr=>
     obtain rfl:k2=m:=by omega
     have HOK2:=hid (show M.okAt l k=true from HOK.out.trans (by have h1:=HT2.out;rw[show k2=f.rows.length from HW.out.1,List.take_length] at h1;rw[HFN.out,h1]))
     go_wp2_with fail
     clear x0 x1 x2 x3 x4 x5 x6
     go_roundw
     case rel=>exact⟨k+1,by omega,by simp,fun j hj=>(by
      rcases Nat.lt_or_ge j k with h|h
      ·exact HT.out j h
      ·obtain rfl:j=k:=by omega
       exact HOK2.out),(E.out.trans EW.out).trans E2.out⟩
     case measure=>simp[intOf];omega
    have jlt':(k2:Int)<(m:Int):=by omega
    obtain⟨r,hr⟩:∃r,f.rows[k2]?=some r:=⟨_,List.getElem?_eq_getElem (by have:=HW.out.1;omega)⟩
    obtain⟨rd,C,cn,cc,D,dn,dc,rfl,⟨s0,s1,s2,s3⟩,hvl,hnum⟩:=(HW.out.2.up (EW.out.trans E2.out)).get hr
    have hcn:=hvl.count
    obtain⟨a2,ha2⟩:∃b,M.vIs r.2 f.sg.ret=b:=⟨_,rfl⟩
    have HD2:=hid (fun w' e=>(show Calls Tryz.prog 35 #[vv r.2.1 r.2.2.1 D dn dc,.int .i64 f.sg.ret] w' (GivesB w' a2) from ha2▸xIsValue_n (x:=r.2) ⟨D,dn,dc,rfl,LNum.up hnum e⟩))
    have HX:=hid hr
    have HVL:=hid hvl
    have HCN:=hid hcn
    have HA2:=hid ha2
    have HSS:=hid (And.intro s0 (And.intro s1 (And.intro s2 s3)))
    clear hr hvl hnum hcn ha2 s0 s1 s2 s3
    go_upto_region 10 with (fail)
    clear x0 x1 x2 x3 x4 x5 x6
    have E3:=hid (ext_end E2.out)
    obtain⟨e1,he1⟩:∃b,((cn:Int) != (n1:Int))=b:=⟨_,rfl⟩
    have HE1:=hid he1
    clear he1
    refine wp_region_D [(0,0),(1,0),(2,0),(3,0),(4,0),(5,0),(6,0),(7,0),(8,0),(9,0),(10,0),(11,0),(12,0),(13,0),(14,0),(15,0),(16,0),(17,0),(18,0),(19,0),(20,0),(21,0),(22,1),(23,0),(24,0)] fun wd hb=>?_
    replace E3:=hid (E3.out.trans hb)
    clear hb
    refine WE.p 54 (.pointer (some ⟨g0,3,none⟩)) ?_
    simp only[pX]
    refine WE.q 55 (.slice (some rd) m d) rfl (fun w' hk=>by obtain⟨⟨x0,x1,x2,x3,x4,x5,x6⟩,-⟩:=box7v (HB2.out.up (E3.out.trans hk));go_simp) ?_
    simp only[pX]
    refine WE.p 56 (.int .i64 (k2:Int)) ?_
    simp only[pX]
    refine WE.q 57 (.pointer (some (rd.add (k2*4)))) rfl (fun w' hk=>by have jlt':(k2:Int)<(m:Int):=(by omega);go_simp) ?_
    simp only[pX]
    refine WE.q 58 (.pointer (some (rd.add (k2*4)))) rfl (fun w' hk=>by go_simp) ?_
    simp only[pX]
    refine WE.q 59 (.slice C cn cc) rfl (fun w' hk=>by have y0:=(E3.out.trans hk).cell HSS.out.1;go_simp) ?_
    simp only[pX]
    refine WE.q 60 (.int .i64 (cn:Int)) rfl (fun w' hk=>by go_simp) ?_
    simp only[pX]
    refine WE.p 61 (.pointer (some ⟨g0,0,none⟩)) ?_
    simp only[pX]
    refine WE.p 62 (.pointer (some ⟨g0,1,none⟩)) ?_
    simp only[pX]
    refine WE.q 63 (.slice A1 n1 c1) rfl (fun w' hk=>by obtain⟨⟨x0,x1,x2,x3,x4,x5,x6⟩,-⟩:=box7v (HB2.out.up (E3.out.trans hk));go_simp) ?_
    simp only[pX]
    refine WE.q 64 (.int .i64 (n1:Int)) rfl (fun w' hk=>by go_simp) ?_
    simp only[pX]
    refine WE.q 65 (.bool e1) rfl (fun w' hk=>by have he:=HE1.out;go_simp) ?_
    simp only[pX]
    refine WE.p 66 (.bool e1) ?_
    simp only[pX]
    cases e1
    case true=>
     refine WE.s 67 ?_
     simp only[pX]
     refine WE.s 68 ?_
     simp only[pX]
     refine WE.s 69 ?_
     simp only[pX]
     refine WE.s 70 ?_
     simp only[pX]
     refine WE.s 71 ?_
     simp only[pX]
     refine WE.s 72 ?_
     simp only[pX]
     refine WE.s 73 ?_
     simp only[pX]
     refine WE.s 74 ?_
     simp only[pX]
     refine WE.s 75 ?_
     simp only[pX]
     refine WE.t 76 ?_
     simp only[pX]
     refine WE.s 77 ?_
     simp only[pX]
     refine WE.p 78 (.bool true) ?_
     simp only[pX]
     refine WE.done ?_
     have HFF:=hid (show R=false from HRR.out.symm.trans (M.not_mIs (by rw[HN.out];exact hlt) (HOK.out.trans (by rw[HFN.out];exact M.not_all HX.out (by unfold M.rowIs;rw[M.vIss_len (by have h1:=HE1.out;have h2:=HCN.out.1;have h3:=HI.out.1;simp at h1;omega)];rfl)))))
     have Ew:=hid (((E.out.trans EW.out).trans E2.out).trans E3.out)
     go_wp2
     go_ret
     exact⟨by rw[HFF.out];rfl,Ew.out⟩
    refine WE.p 67 (.pointer (some ⟨g0,3,none⟩)) ?_
    simp only[pX]
    refine WE.q 68 (.slice (some rd) m d) rfl (fun w' hk=>by obtain⟨⟨x0,x1,x2,x3,x4,x5,x6⟩,-⟩:=box7v (HB2.out.up (E3.out.trans hk));go_simp) ?_
    simp only[pX]
    refine WE.p 69 (.int .i64 (k2:Int)) ?_
    simp only[pX]
    refine WE.q 70 (.pointer (some (rd.add (k2*4)))) rfl (fun w' hk=>by have jlt':(k2:Int)<(m:Int):=(by omega);go_simp) ?_
    simp only[pX]
    refine WE.q 71 (.pointer (some ⟨(rd.add (k2*4)).block,(rd.add (k2*4)).off+1,none⟩)) rfl (fun w' hk=>by go_simp) ?_
    simp only[pX]
    refine WE.q 72 (vv r.2.1 r.2.2.1 D dn dc) rfl (fun w' hk=>by have ee:=E3.out.trans hk;have y1:=ee.cell HSS.out.2.1;have y2:=ee.cell HSS.out.2.2.1;have y3:=ee.cell HSS.out.2.2.2;go_simp) ?_
    simp only[pX]
    refine WE.p 73 (.pointer (some ⟨g0,0,none⟩)) ?_
    simp only[pX]
    refine WE.p 74 (.pointer (some ⟨g0,2,none⟩)) ?_
    simp only[pX]
    refine WE.q 75 (.int .i64 f.sg.ret) rfl (fun w' hk=>by obtain⟨⟨x0,x1,x2,x3,x4,x5,x6⟩,-⟩:=box7v (HB2.out.up (E3.out.trans hk));go_simp) ?_
    simp only[pX]
    refine WE.c 76 ((HD2.out _ E3.out).mono ?_)
    rintro e w6 ⟨rfl,hb⟩
    refine⟨_,rfl,hb,?_⟩
    replace E3:=hid (E3.out.trans hb)
    clear hb
    simp only[pX]
    refine WE.p 77 (.bool (!a2)) ?_
    simp only[pX]
    refine WE.p 78 (.bool (!a2)) ?_
    simp only[pX]
    refine WE.done ?_
    cases a2
    case false=>
     have HFF:=hid (show R=false from HRR.out.symm.trans (M.not_mIs (by rw[HN.out];exact hlt) (HOK.out.trans (by rw[HFN.out];exact M.not_all HX.out (by unfold M.rowIs;rw[HA2.out,Bool.and_false])))))
     have Ew:=hid (((E.out.trans EW.out).trans E2.out).trans E3.out)
     go_wp2
     go_ret
     exact⟨by rw[HFF.out];rfl,Ew.out⟩
    obtain⟨WY,hWY⟩:∃W,W=w6:=⟨_,rfl⟩
    rw[←hWY] at E3 ⊢
    clear hWY
    have hcc:=HCN.out.2
    go_wp2_with fail
    go_loopw[6] (fun i wp=>∃j:Nat,j≤n1∧i=.int .i64 j∧Hid (M.vIss (r.1.take j) (f.sg.args.take j)=true∧Ext WY wp)) (fun i _=>n1-(intOf i).toNat)
    case atStart=>exact⟨0,Nat.zero_le _,rfl,by rfl,Ext.refl _⟩
    case round=>
     obtain⟨j,hj,rfl,hR⟩:=hrel
     have HT3:=hid hR.out.1
     have E4:=hid (E3.out.trans hR.out.2)
     have EY:=hid hR.out.2
     clear hR
     obtain⟨⟨x0,x1,x2,x3,x4,x5,x6⟩,-⟩:=box7v (HB2.out.up E4.out)
     rcases Nat.lt_or_ge j n1 with ilt|ige
     case inr=>
      obtain rfl:j=n1:=by omega
      have HRW:=hid (show M.rowIs f.sg r=true by
       have h1:=HT3.out
       have h2:=HCN.out.1
       have h3:=HI.out.1
       have h4:=HE1.out
       have h5:r.1.length=j:=by simp at h4;omega
       rw[←h5,List.take_length,h5,h3,List.take_length] at h1
       unfold M.rowIs
       rw[h1,HA2.out];rfl)
      go_wp2_with fail
      clear x0 x1 x2 x3 x4 x5 x6
      go_roundw
      case rel=>exact⟨k2+1,by omega,by simp,by rw[M.all_take HX.out,HT2.out,HRW.out];rfl,E2.out.trans E4.out⟩
      case measure=>simp[intOf];omega
     have ilt':(j:Int)<(n1:Int):=by omega
     have hjc:j<cn:=by have h1:=HE1.out;simp at h1;omega
     obtain⟨x,hx⟩:∃x,r.1[j]?=some x:=⟨_,List.getElem?_eq_getElem (by have:=HCN.out.1;omega)⟩
     obtain⟨vd,XN,xn,xc,rfl,⟨v0,v1,v2⟩,hxv⟩:=(HVL.out.up E4.out).at_ hx
     obtain⟨ia,y,rfl,hy,hyc⟩:=(HI.out.2.up ((EW.out.trans E2.out).trans E4.out)).get ilt
     obtain⟨b3,hb3⟩:∃b,M.vIs x y=b:=⟨_,rfl⟩
     have HD3:=hid (fun w' e=>(show Calls Tryz.prog 35 #[vv x.1 x.2.1 XN xn xc,.int .i64 y] w' (GivesB w' b3) from hb3▸xIsValue_n (hxv.up e)))
     have HXX:=hid (And.intro hx (And.intro hy hb3))
     have HVC:=hid (And.intro v0 (And.intro v1 (And.intro v2 hyc)))
     have jlt':(k2:Int)<(m:Int):=by omega
     have hjc':(j:Int)<(cn:Int):=by omega
     clear hx hy hb3 hxv v0 v1 v2 hyc
     go_upto_region 15 with (fail)
     clear x0 x1 x2 x3 x4 x5 x6
     have E5:=hid (ext_end EY.out)
     refine wp_region_D [(0,0),(1,0),(2,0),(3,0),(4,0),(5,0),(6,0),(7,0),(8,0),(9,0),(10,0),(11,0),(12,0),(13,0),(14,0),(15,1),(16,0)] fun wd hb=>?_
     replace E5:=hid (E5.out.trans hb)
     clear hb
     refine WE.p 87 (.pointer (some ⟨g0,3,none⟩)) ?_
     simp only[pX]
     refine WE.q 88 (.slice (some rd) m d) rfl (fun w' hk=>by obtain⟨⟨x0,x1,x2,x3,x4,x5,x6⟩,-⟩:=box7v (HB2.out.up (E4.out.trans (E5.out.trans hk)));go_simp) ?_
     simp only[pX]
     refine WE.p 89 (.int .i64 (k2:Int)) ?_
     simp only[pX]
     refine WE.q 90 (.pointer (some (rd.add (k2*4)))) rfl (fun w' hk=>by go_simp) ?_
     simp only[pX]
     refine WE.q 91 (.pointer (some (rd.add (k2*4)))) rfl (fun w' hk=>by go_simp) ?_
     simp only[pX]
     refine WE.q 92 (.slice (some vd) cn cc) rfl (fun w' hk=>by have y0:=(E4.out.trans (E5.out.trans hk)).cell HSS.out.1;go_simp) ?_
     simp only[pX]
     refine WE.p 93 (.int .i64 (j:Int)) ?_
     simp only[pX]
     refine WE.q 94 (.pointer (some (vd.add (j*3)))) rfl (fun w' hk=>by go_simp) ?_
     simp only[pX]
     refine WE.q 95 (vv x.1 x.2.1 XN xn xc) rfl (fun w' hk=>by have ee:=E5.out.trans hk;have y1:=ee.cell HVC.out.1;have y2:=ee.cell HVC.out.2.1;have y3:=ee.cell HVC.out.2.2.1;go_simp) ?_
     simp only[pX]
     refine WE.p 96 (.pointer (some ⟨g0,0,none⟩)) ?_
     simp only[pX]
     refine WE.p 97 (.pointer (some ⟨g0,1,none⟩)) ?_
     simp only[pX]
     refine WE.q 98 (.slice (some ia) n1 c1) rfl (fun w' hk=>by obtain⟨⟨x0,x1,x2,x3,x4,x5,x6⟩,-⟩:=box7v (HB2.out.up (E4.out.trans (E5.out.trans hk)));go_simp) ?_
     simp only[pX]
     refine WE.p 99 (.int .i64 (j:Int)) ?_
     simp only[pX]
     refine WE.q 100 (.pointer (some (ia.add j))) rfl (fun w' hk=>by go_simp) ?_
     simp only[pX]
     refine WE.q 101 (.int .i64 y) rfl (fun w' hk=>by have y1:=(E5.out.trans hk).cell HVC.out.2.2.2;go_simp) ?_
     simp only[pX]
     refine WE.c 102 ((HD3.out _ E5.out).mono ?_)
     rintro e w6 ⟨rfl,hb⟩
     refine⟨_,rfl,hb,?_⟩
     replace E5:=hid (E5.out.trans hb)
     clear hb
     simp only[pX]
     refine WE.p 103 (.bool (!b3)) ?_
     simp only[pX]
     refine WE.done ?_
     cases b3
     case false=>
      have HFF:=hid (show R=false from HRR.out.symm.trans (M.not_mIs (by rw[HN.out];exact hlt) (HOK.out.trans (by rw[HFN.out];exact M.not_all HX.out (by unfold M.rowIs;rw[M.vIss_no HXX.out.1 HXX.out.2.1 HXX.out.2.2];rfl)))))
      have Ew:=hid ((((E.out.trans EW.out).trans E2.out).trans E4.out).trans E5.out)
      go_wp2
      go_ret
      exact⟨by rw[HFF.out];rfl,Ew.out⟩
     clear jlt' hjc hjc' ilt'
     go_wp2_with fail
     go_roundw
     case rel=>exact⟨j+1,by omega,by simp,by rw[M.vIss_take HXX.out.1 HXX.out.2.1,HT3.out,HXX.out.2.2];rfl,EY.out.trans E5.out⟩
     case measure=>simp[intOf];omega
theorem xMay_n {l:List M.Fn}{v:Value}{w:World}(h:FnList w l v)(hl:∀f∈l,f.sg.name.length≤1000000000000): Calls Tryz.prog 50 #[v] w (fun e w'=>∃u,e=.returned u∧FnList w (M.mRead l) u∧Ext w w'):=by
 obtain⟨q,hq⟩:∃q,M.mIs l=q:=⟨_,rfl⟩
 have HC:=hid (show Calls Tryz.prog 11 #[v] w (GivesB w q) from hq▸xIs_n h hl)
 have HM:=hid (show M.mRead l=if q=true then l else[] by unfold M.mRead;rw[hq])
 obtain⟨A,c,rfl⟩:=h.shape
 have HL:=hid h
 clear hq h hl
 go_enter Tryz.func50,Tryz.ntmps50
 go_wp2_with fail
 refine HC.out.mono ?_
 rintro e w1 ⟨rfl,hx⟩
 have E:=hid hx
 clear hx HC
 cases q
 ·go_wp2_with fail
  go_ret
  refine⟨_,rfl,?_,E.out⟩
  rw[HM.out]
  simpa using FnList.nil w
 ·go_wp2_with fail
  go_ret
  refine⟨_,rfl,?_,E.out⟩
  rw[HM.out]
  simpa using HL.out
end Go.Proofs.YtoenjbkmiphhoaaGreatDoor.Q
