/-
  Layer 10, the reference: whether it is a term.
-/
import Derived.Test.YtoenjbkmiphhoaaGreatDoorS14
import Derived.Test.YtoenjbkmiphhoaaGreatDoorS15
namespace Go.Proofs.YtoenjbkmiphhoaaGreatDoor.Q
set_option linter.unusedSimpArgs false
set_option linter.unusedVariables false
open Go.RowKit
theorem M.zv_sign {g:Bool}{ls:List Nat}{sg:Int}(h:(M.zv g ls).sign=sg): decide (M.zv g ls=0)=decide (sg=0):=by
 rw[decide_eq_decide,←h,Int.sign_eq_zero_iff_zero]
set_option maxHeartbeats 40000000 in
set_option maxRecDepth 100000 in
theorem kis_n (t:M.Tm): ∀{v:Value} {w:World},IsTm w t v→M.kfew t=true→Calls Tryz.prog 48 #[v] w (GivesB w (M.kis t)):=by
 refine M.Tm.indA (P:=fun t=>∀{v:Value} {w:World},IsTm w t v→M.kfew t=true→Calls Tryz.prog 48 #[v] w (GivesB w (M.kis t))) (fun op g ls nm so ks ih v w h hfw=>?_) t
 obtain⟨hf1,hf2,hf3⟩:=M.kfew_parts hfw
 replace hf1:nm.length≤30:=hf1
 replace hf3:M.kfews ks=true:=hf3
 obtain⟨N,nn,nc,A,c,rfl,hn,hk⟩:=h
 replace hk:Tms w ks (.slice A ks.length c):=hk
 replace hn:LNum w (.slice N nn nc) ls:=hn
 show Calls Tryz.prog 48 #[kv op g N nn nc nm so A ks.length c] w _
 obtain⟨hl1,hl2,hl3⟩:=hk.le
 obtain⟨n,hnn⟩:∃n,ks.length=n:=⟨_,rfl⟩
 obtain⟨z,hz⟩:∃z,M.kis (.mk op g ls nm so ks)=z:=⟨_,rfl⟩
 have hz':z=(M.kiss ks&&M.khead op g ls nm so ks):=by rw[←hz,M.kis]
 rw[hz]
 rw[hnn] at hk hl2 ⊢
 have HT:=hid hk
 have IH:=@hid _ @ih
 have HN:=hid hnn
 have HNU:=hid hn
 have HZ':=hid hz'
 have HF1:=hid hf1
 have HF3:=hid hf3
 clear hk ih hl1 hz hn hnn hz' hfw hf1 hf2 hf3
 go_enter Tryz.func48,Tryz.ntmps48
 go_wp2_with fail
 go_loopw[3] (fun i wr=>∃(k:Nat),i=.int .i64 (k:Int)∧k≤n∧Hid (M.kiss (ks.take k)=true∧Ext (kboxed w op g N nn nc nm so A n c) wr)) (fun i _=>n-(intOf i).toNat)
 case atStart=>exact⟨0,rfl,Nat.zero_le _,by simp[M.kiss],Ext.refl _⟩
 case round=>
  obtain⟨k,rfl,hk,hR⟩:=hrel
  have E:=hid hR.out.2
  obtain⟨⟨b0,b1,b2,b3,b4,b5⟩,hzz⟩:=box6 E.out
  have HS:=hid hR.out.1
  clear hR
  rcases Nat.lt_or_ge k n with hlt|hge
  ·have hlt':(k:Int)<(n:Int):=by omega
   obtain⟨ad,u,N',nn',nc',B,d,rfl,hu,⟨c0,c1,c2,c3,c4,c5⟩,hv⟩:=(HT.out.up ((Ext.alloc w _).trans E.out)).get hlt
   have HU:=hid hu
   have HC:=hid (IH.out k u HU.out hv (M.kfews_at HF3.out HU.out))
   obtain⟨q,hq'⟩:∃q,M.kis u=q:=⟨_,rfl⟩
   have HQ:=hid hq'
   rw[hq'] at HC
   clear hu hv hq'
   cases q
   ·go_wp2_with (go_at_call 48;refine HC.out.mono ?_;rintro e w' ⟨rfl,hb⟩;replace E:=hid (E.out.trans hb);clear hb)
    go_ret
    obtain rfl:false=z:=by rw[HZ'.out,M.not_kiss HU.out HQ.out];rfl
    exact⟨rfl,(Ext.alloc w _).trans E.out⟩
   ·go_wp2_with (go_at_call 48;refine HC.out.mono ?_;rintro e w' ⟨rfl,hb⟩;replace E:=hid (E.out.trans hb);clear hb)
    go_roundw
    case rel=>exact⟨k+1,by simp,by omega,by rw[M.kiss_take HU.out,HS.out,HQ.out];rfl,E.out⟩
    case measure=>simp[intOf];omega
  ·obtain rfl:n=k:=by omega
   obtain⟨bi,hbi⟩:∃b,M.isZ g ls=b:=⟨_,rfl⟩
   obtain⟨sg,hsg⟩:∃s,(M.zv g ls).sign=s:=⟨_,rfl⟩
   obtain⟨sy,hsy⟩:∃s,M.isSym nm=s:=⟨_,rfl⟩
   have hzs:=M.zv_sign hsg
   have hz1:z=M.khead op g ls nm so ks:=by
    have h1:=HS.out
    rw[←HN.out,List.take_length] at h1
    rw[HZ'.out,h1,Bool.true_and]
   have hlen:=HN.out
   have hemp:ks.isEmpty=decide (n=0):=by rw[←hlen];cases ks<;>simp
   have HI:=hid (show ∀w',Ext wr w'→Calls Tryz.prog 59 #[.agg #[.bool g,.slice N nn nc]] w' (GivesB w' bi) from fun w' e=>rzIs_any (HNU.out.up (((Ext.alloc w _).trans E.out).trans e)) hbi)
   have HG:=hid (show ∀w',Ext wr w'→Calls Tryz.prog 60 #[.agg #[.bool g,.slice N nn nc]] w' (GivesN w' sg) from fun w' e=>rSign_w (worth_tm (HNU.out.up (((Ext.alloc w _).trans E.out).trans e))) hsg)
   have HY:=hid (show ∀w',Ext wr w'→Calls Tryz.prog 58 #[str nm] w' (GivesB w' sy) from fun w' e=>(rSymbol_n nm (by have:=HF1.out;omega) w').mono fun e w2 h=>⟨by rw[h.1,hsy],h.2▸Ext.refl _⟩)
   clear hge hk hsg
   have EW:=hid (Ext.refl wr)
   rcases (show op=1∨(op=2∨op=3)∨op=4∨(op≠1∧op≠2∧op≠3∧op≠4) by omega) with hop|hop|hop|⟨ho1,ho2,ho3,ho4⟩
   ·subst hop
    have hz2:z=(bi&&(nm.isEmpty&&(decide (so=2)&&decide (n=0)))):=by rw[hz1];unfold M.khead;rw[if_pos rfl,hbi,hemp]
    cases bi
    ·have HZ:=hid (show false=z by rw[hz2];rfl)
     clear hz1 hz2
     go_wp2_with (first|(go_at_call 59;refine(HI.out _ EW.out).mono ?_;rintro e w' ⟨rfl,hx⟩;replace EW:=hid (EW.out.trans hx);replace b0:=hx.cell b0;replace b1:=hx.cell b1;replace b2:=hx.cell b2;replace b3:=hx.cell b3;replace b4:=hx.cell b4;replace b5:=hx.cell b5;clear hx)|(go_at_call 60;refine(HG.out _ EW.out).mono ?_;rintro e w' ⟨rfl,hx⟩;replace EW:=hid (EW.out.trans hx);replace b0:=hx.cell b0;replace b1:=hx.cell b1;replace b2:=hx.cell b2;replace b3:=hx.cell b3;replace b4:=hx.cell b4;replace b5:=hx.cell b5;clear hx)|(go_at_call 58;refine(HY.out _ EW.out).mono ?_;rintro e w' ⟨rfl,hx⟩;replace EW:=hid (EW.out.trans hx);replace b0:=hx.cell b0;replace b1:=hx.cell b1;replace b2:=hx.cell b2;replace b3:=hx.cell b3;replace b4:=hx.cell b4;replace b5:=hx.cell b5;clear hx))
     go_ret
     obtain rfl:false=z:=HZ.out
     exact⟨rfl,((Ext.alloc w _).trans E.out).trans EW.out⟩
    rw[Bool.true_and] at hz2
    by_cases hs0:sg=0
    ·subst hs0
     by_cases hnm:nm=[]
     case neg=>
      have HZ:=hid (show false=z by rw[hz2,show nm.isEmpty=false by cases nm<;>simp at hnm ⊢];rfl)
      clear hz1 hz2
      go_wp2_with (first|(go_at_call 59;refine(HI.out _ EW.out).mono ?_;rintro e w' ⟨rfl,hx⟩;replace EW:=hid (EW.out.trans hx);replace b0:=hx.cell b0;replace b1:=hx.cell b1;replace b2:=hx.cell b2;replace b3:=hx.cell b3;replace b4:=hx.cell b4;replace b5:=hx.cell b5;clear hx)|(go_at_call 60;refine(HG.out _ EW.out).mono ?_;rintro e w' ⟨rfl,hx⟩;replace EW:=hid (EW.out.trans hx);replace b0:=hx.cell b0;replace b1:=hx.cell b1;replace b2:=hx.cell b2;replace b3:=hx.cell b3;replace b4:=hx.cell b4;replace b5:=hx.cell b5;clear hx)|(go_at_call 58;refine(HY.out _ EW.out).mono ?_;rintro e w' ⟨rfl,hx⟩;replace EW:=hid (EW.out.trans hx);replace b0:=hx.cell b0;replace b1:=hx.cell b1;replace b2:=hx.cell b2;replace b3:=hx.cell b3;replace b4:=hx.cell b4;replace b5:=hx.cell b5;clear hx))
      go_ret
      obtain rfl:false=z:=HZ.out
      exact⟨rfl,((Ext.alloc w _).trans E.out).trans EW.out⟩
     case pos=>
     subst hnm
     by_cases hso:so=2
     case neg=>
      have HZ:=hid (show false=z by rw[hz2,decide_eq_false hso];rfl)
      have hq:(so==2)=false:=by simpa using hso
      clear hz1 hz2 hso
      go_wp2_with (first|(go_at_call 59;refine(HI.out _ EW.out).mono ?_;rintro e w' ⟨rfl,hx⟩;replace EW:=hid (EW.out.trans hx);replace b0:=hx.cell b0;replace b1:=hx.cell b1;replace b2:=hx.cell b2;replace b3:=hx.cell b3;replace b4:=hx.cell b4;replace b5:=hx.cell b5;clear hx)|(go_at_call 60;refine(HG.out _ EW.out).mono ?_;rintro e w' ⟨rfl,hx⟩;replace EW:=hid (EW.out.trans hx);replace b0:=hx.cell b0;replace b1:=hx.cell b1;replace b2:=hx.cell b2;replace b3:=hx.cell b3;replace b4:=hx.cell b4;replace b5:=hx.cell b5;clear hx)|(go_at_call 58;refine(HY.out _ EW.out).mono ?_;rintro e w' ⟨rfl,hx⟩;replace EW:=hid (EW.out.trans hx);replace b0:=hx.cell b0;replace b1:=hx.cell b1;replace b2:=hx.cell b2;replace b3:=hx.cell b3;replace b4:=hx.cell b4;replace b5:=hx.cell b5;clear hx))
      go_ret
      obtain rfl:false=z:=HZ.out
      exact⟨rfl,((Ext.alloc w _).trans E.out).trans EW.out⟩
     case pos=>
     subst hso
     by_cases hn0:n=0
     case neg=>
      have HZ:=hid (show false=z by rw[hz2,decide_eq_false hn0];rfl)
      have hq:((n:Int)==0)=false:=by simp;omega
      clear hz1 hz2 hn0
      go_wp2_with (first|(go_at_call 59;refine(HI.out _ EW.out).mono ?_;rintro e w' ⟨rfl,hx⟩;replace EW:=hid (EW.out.trans hx);replace b0:=hx.cell b0;replace b1:=hx.cell b1;replace b2:=hx.cell b2;replace b3:=hx.cell b3;replace b4:=hx.cell b4;replace b5:=hx.cell b5;clear hx)|(go_at_call 60;refine(HG.out _ EW.out).mono ?_;rintro e w' ⟨rfl,hx⟩;replace EW:=hid (EW.out.trans hx);replace b0:=hx.cell b0;replace b1:=hx.cell b1;replace b2:=hx.cell b2;replace b3:=hx.cell b3;replace b4:=hx.cell b4;replace b5:=hx.cell b5;clear hx)|(go_at_call 58;refine(HY.out _ EW.out).mono ?_;rintro e w' ⟨rfl,hx⟩;replace EW:=hid (EW.out.trans hx);replace b0:=hx.cell b0;replace b1:=hx.cell b1;replace b2:=hx.cell b2;replace b3:=hx.cell b3;replace b4:=hx.cell b4;replace b5:=hx.cell b5;clear hx))
      go_ret
      obtain rfl:false=z:=HZ.out
      exact⟨rfl,((Ext.alloc w _).trans E.out).trans EW.out⟩
     case pos=>
     subst hn0
     have HZ:=hid (show true=z by rw[hz2];rfl)
     clear hz1 hz2
     go_wp2_with (first|(go_at_call 59;refine(HI.out _ EW.out).mono ?_;rintro e w' ⟨rfl,hx⟩;replace EW:=hid (EW.out.trans hx);replace b0:=hx.cell b0;replace b1:=hx.cell b1;replace b2:=hx.cell b2;replace b3:=hx.cell b3;replace b4:=hx.cell b4;replace b5:=hx.cell b5;clear hx)|(go_at_call 60;refine(HG.out _ EW.out).mono ?_;rintro e w' ⟨rfl,hx⟩;replace EW:=hid (EW.out.trans hx);replace b0:=hx.cell b0;replace b1:=hx.cell b1;replace b2:=hx.cell b2;replace b3:=hx.cell b3;replace b4:=hx.cell b4;replace b5:=hx.cell b5;clear hx)|(go_at_call 58;refine(HY.out _ EW.out).mono ?_;rintro e w' ⟨rfl,hx⟩;replace EW:=hid (EW.out.trans hx);replace b0:=hx.cell b0;replace b1:=hx.cell b1;replace b2:=hx.cell b2;replace b3:=hx.cell b3;replace b4:=hx.cell b4;replace b5:=hx.cell b5;clear hx))
     go_ret
     obtain rfl:true=z:=HZ.out
     exact⟨rfl,((Ext.alloc w _).trans E.out).trans EW.out⟩
    ·have hs1:(sg==0)=false:=by simpa using hs0
     by_cases hnm:nm=[]
     case neg=>
      have HZ:=hid (show false=z by rw[hz2,show nm.isEmpty=false by cases nm<;>simp at hnm ⊢];rfl)
      clear hz1 hz2 hs0
      go_wp2_with (first|(go_at_call 59;refine(HI.out _ EW.out).mono ?_;rintro e w' ⟨rfl,hx⟩;replace EW:=hid (EW.out.trans hx);replace b0:=hx.cell b0;replace b1:=hx.cell b1;replace b2:=hx.cell b2;replace b3:=hx.cell b3;replace b4:=hx.cell b4;replace b5:=hx.cell b5;clear hx)|(go_at_call 60;refine(HG.out _ EW.out).mono ?_;rintro e w' ⟨rfl,hx⟩;replace EW:=hid (EW.out.trans hx);replace b0:=hx.cell b0;replace b1:=hx.cell b1;replace b2:=hx.cell b2;replace b3:=hx.cell b3;replace b4:=hx.cell b4;replace b5:=hx.cell b5;clear hx)|(go_at_call 58;refine(HY.out _ EW.out).mono ?_;rintro e w' ⟨rfl,hx⟩;replace EW:=hid (EW.out.trans hx);replace b0:=hx.cell b0;replace b1:=hx.cell b1;replace b2:=hx.cell b2;replace b3:=hx.cell b3;replace b4:=hx.cell b4;replace b5:=hx.cell b5;clear hx))
      go_ret
      obtain rfl:false=z:=HZ.out
      exact⟨rfl,((Ext.alloc w _).trans E.out).trans EW.out⟩
     case pos=>
     subst hnm
     by_cases hso:so=2
     case neg=>
      have HZ:=hid (show false=z by rw[hz2,decide_eq_false hso];rfl)
      have hq:(so==2)=false:=by simpa using hso
      clear hz1 hz2 hso hs0
      go_wp2_with (first|(go_at_call 59;refine(HI.out _ EW.out).mono ?_;rintro e w' ⟨rfl,hx⟩;replace EW:=hid (EW.out.trans hx);replace b0:=hx.cell b0;replace b1:=hx.cell b1;replace b2:=hx.cell b2;replace b3:=hx.cell b3;replace b4:=hx.cell b4;replace b5:=hx.cell b5;clear hx)|(go_at_call 60;refine(HG.out _ EW.out).mono ?_;rintro e w' ⟨rfl,hx⟩;replace EW:=hid (EW.out.trans hx);replace b0:=hx.cell b0;replace b1:=hx.cell b1;replace b2:=hx.cell b2;replace b3:=hx.cell b3;replace b4:=hx.cell b4;replace b5:=hx.cell b5;clear hx)|(go_at_call 58;refine(HY.out _ EW.out).mono ?_;rintro e w' ⟨rfl,hx⟩;replace EW:=hid (EW.out.trans hx);replace b0:=hx.cell b0;replace b1:=hx.cell b1;replace b2:=hx.cell b2;replace b3:=hx.cell b3;replace b4:=hx.cell b4;replace b5:=hx.cell b5;clear hx))
      go_ret
      obtain rfl:false=z:=HZ.out
      exact⟨rfl,((Ext.alloc w _).trans E.out).trans EW.out⟩
     case pos=>
     subst hso
     by_cases hn0:n=0
     case neg=>
      have HZ:=hid (show false=z by rw[hz2,decide_eq_false hn0];rfl)
      have hq:((n:Int)==0)=false:=by simp;omega
      clear hz1 hz2 hn0 hs0
      go_wp2_with (first|(go_at_call 59;refine(HI.out _ EW.out).mono ?_;rintro e w' ⟨rfl,hx⟩;replace EW:=hid (EW.out.trans hx);replace b0:=hx.cell b0;replace b1:=hx.cell b1;replace b2:=hx.cell b2;replace b3:=hx.cell b3;replace b4:=hx.cell b4;replace b5:=hx.cell b5;clear hx)|(go_at_call 60;refine(HG.out _ EW.out).mono ?_;rintro e w' ⟨rfl,hx⟩;replace EW:=hid (EW.out.trans hx);replace b0:=hx.cell b0;replace b1:=hx.cell b1;replace b2:=hx.cell b2;replace b3:=hx.cell b3;replace b4:=hx.cell b4;replace b5:=hx.cell b5;clear hx)|(go_at_call 58;refine(HY.out _ EW.out).mono ?_;rintro e w' ⟨rfl,hx⟩;replace EW:=hid (EW.out.trans hx);replace b0:=hx.cell b0;replace b1:=hx.cell b1;replace b2:=hx.cell b2;replace b3:=hx.cell b3;replace b4:=hx.cell b4;replace b5:=hx.cell b5;clear hx))
      go_ret
      obtain rfl:false=z:=HZ.out
      exact⟨rfl,((Ext.alloc w _).trans E.out).trans EW.out⟩
     case pos=>
     subst hn0
     have HZ:=hid (show true=z by rw[hz2];rfl)
     clear hz1 hz2 hs0
     go_wp2_with (first|(go_at_call 59;refine(HI.out _ EW.out).mono ?_;rintro e w' ⟨rfl,hx⟩;replace EW:=hid (EW.out.trans hx);replace b0:=hx.cell b0;replace b1:=hx.cell b1;replace b2:=hx.cell b2;replace b3:=hx.cell b3;replace b4:=hx.cell b4;replace b5:=hx.cell b5;clear hx)|(go_at_call 60;refine(HG.out _ EW.out).mono ?_;rintro e w' ⟨rfl,hx⟩;replace EW:=hid (EW.out.trans hx);replace b0:=hx.cell b0;replace b1:=hx.cell b1;replace b2:=hx.cell b2;replace b3:=hx.cell b3;replace b4:=hx.cell b4;replace b5:=hx.cell b5;clear hx)|(go_at_call 58;refine(HY.out _ EW.out).mono ?_;rintro e w' ⟨rfl,hx⟩;replace EW:=hid (EW.out.trans hx);replace b0:=hx.cell b0;replace b1:=hx.cell b1;replace b2:=hx.cell b2;replace b3:=hx.cell b3;replace b4:=hx.cell b4;replace b5:=hx.cell b5;clear hx))
     go_ret
     obtain rfl:true=z:=HZ.out
     exact⟨rfl,((Ext.alloc w _).trans E.out).trans EW.out⟩
   ·have hz2:z=(bi&&(decide (sg=0)&&(nm.isEmpty&&(decide (so=1)&&decide (n=0))))):=by rw[hz1];unfold M.khead;rw[if_neg (by omega),if_pos hop,hbi,hemp,hzs,Bool.and_assoc]
    rcases hop with rfl|rfl
    ·skip
     cases bi
     ·have HZ:=hid (show false=z by rw[hz2];rfl)
      clear hz1 hz2
      go_wp2_with (first|(go_at_call 59;refine(HI.out _ EW.out).mono ?_;rintro e w' ⟨rfl,hx⟩;replace EW:=hid (EW.out.trans hx);replace b0:=hx.cell b0;replace b1:=hx.cell b1;replace b2:=hx.cell b2;replace b3:=hx.cell b3;replace b4:=hx.cell b4;replace b5:=hx.cell b5;clear hx)|(go_at_call 60;refine(HG.out _ EW.out).mono ?_;rintro e w' ⟨rfl,hx⟩;replace EW:=hid (EW.out.trans hx);replace b0:=hx.cell b0;replace b1:=hx.cell b1;replace b2:=hx.cell b2;replace b3:=hx.cell b3;replace b4:=hx.cell b4;replace b5:=hx.cell b5;clear hx)|(go_at_call 58;refine(HY.out _ EW.out).mono ?_;rintro e w' ⟨rfl,hx⟩;replace EW:=hid (EW.out.trans hx);replace b0:=hx.cell b0;replace b1:=hx.cell b1;replace b2:=hx.cell b2;replace b3:=hx.cell b3;replace b4:=hx.cell b4;replace b5:=hx.cell b5;clear hx))
      go_ret
      obtain rfl:false=z:=HZ.out
      exact⟨rfl,((Ext.alloc w _).trans E.out).trans EW.out⟩
     rw[Bool.true_and] at hz2
     by_cases hs0:sg=0
     case neg=>
      have hs1:(sg==0)=false:=by simpa using hs0
      have HZ:=hid (show false=z by rw[hz2,decide_eq_false hs0];rfl)
      clear hz1 hz2 hs0
      go_wp2_with (first|(go_at_call 59;refine(HI.out _ EW.out).mono ?_;rintro e w' ⟨rfl,hx⟩;replace EW:=hid (EW.out.trans hx);replace b0:=hx.cell b0;replace b1:=hx.cell b1;replace b2:=hx.cell b2;replace b3:=hx.cell b3;replace b4:=hx.cell b4;replace b5:=hx.cell b5;clear hx)|(go_at_call 60;refine(HG.out _ EW.out).mono ?_;rintro e w' ⟨rfl,hx⟩;replace EW:=hid (EW.out.trans hx);replace b0:=hx.cell b0;replace b1:=hx.cell b1;replace b2:=hx.cell b2;replace b3:=hx.cell b3;replace b4:=hx.cell b4;replace b5:=hx.cell b5;clear hx)|(go_at_call 58;refine(HY.out _ EW.out).mono ?_;rintro e w' ⟨rfl,hx⟩;replace EW:=hid (EW.out.trans hx);replace b0:=hx.cell b0;replace b1:=hx.cell b1;replace b2:=hx.cell b2;replace b3:=hx.cell b3;replace b4:=hx.cell b4;replace b5:=hx.cell b5;clear hx))
      go_ret
      obtain rfl:false=z:=HZ.out
      exact⟨rfl,((Ext.alloc w _).trans E.out).trans EW.out⟩
     case pos=>
     subst hs0
     rw[decide_eq_true rfl,Bool.true_and] at hz2
     by_cases hnm:nm=[]
     case neg=>
      have HZ:=hid (show false=z by rw[hz2,show nm.isEmpty=false by cases nm<;>simp at hnm ⊢];rfl)
      clear hz1 hz2
      go_wp2_with (first|(go_at_call 59;refine(HI.out _ EW.out).mono ?_;rintro e w' ⟨rfl,hx⟩;replace EW:=hid (EW.out.trans hx);replace b0:=hx.cell b0;replace b1:=hx.cell b1;replace b2:=hx.cell b2;replace b3:=hx.cell b3;replace b4:=hx.cell b4;replace b5:=hx.cell b5;clear hx)|(go_at_call 60;refine(HG.out _ EW.out).mono ?_;rintro e w' ⟨rfl,hx⟩;replace EW:=hid (EW.out.trans hx);replace b0:=hx.cell b0;replace b1:=hx.cell b1;replace b2:=hx.cell b2;replace b3:=hx.cell b3;replace b4:=hx.cell b4;replace b5:=hx.cell b5;clear hx)|(go_at_call 58;refine(HY.out _ EW.out).mono ?_;rintro e w' ⟨rfl,hx⟩;replace EW:=hid (EW.out.trans hx);replace b0:=hx.cell b0;replace b1:=hx.cell b1;replace b2:=hx.cell b2;replace b3:=hx.cell b3;replace b4:=hx.cell b4;replace b5:=hx.cell b5;clear hx))
      go_ret
      obtain rfl:false=z:=HZ.out
      exact⟨rfl,((Ext.alloc w _).trans E.out).trans EW.out⟩
     case pos=>
     subst hnm
     by_cases hso:so=1
     case neg=>
      have HZ:=hid (show false=z by rw[hz2,decide_eq_false hso];rfl)
      have hq:(so==1)=false:=by simpa using hso
      clear hz1 hz2 hso
      go_wp2_with (first|(go_at_call 59;refine(HI.out _ EW.out).mono ?_;rintro e w' ⟨rfl,hx⟩;replace EW:=hid (EW.out.trans hx);replace b0:=hx.cell b0;replace b1:=hx.cell b1;replace b2:=hx.cell b2;replace b3:=hx.cell b3;replace b4:=hx.cell b4;replace b5:=hx.cell b5;clear hx)|(go_at_call 60;refine(HG.out _ EW.out).mono ?_;rintro e w' ⟨rfl,hx⟩;replace EW:=hid (EW.out.trans hx);replace b0:=hx.cell b0;replace b1:=hx.cell b1;replace b2:=hx.cell b2;replace b3:=hx.cell b3;replace b4:=hx.cell b4;replace b5:=hx.cell b5;clear hx)|(go_at_call 58;refine(HY.out _ EW.out).mono ?_;rintro e w' ⟨rfl,hx⟩;replace EW:=hid (EW.out.trans hx);replace b0:=hx.cell b0;replace b1:=hx.cell b1;replace b2:=hx.cell b2;replace b3:=hx.cell b3;replace b4:=hx.cell b4;replace b5:=hx.cell b5;clear hx))
      go_ret
      obtain rfl:false=z:=HZ.out
      exact⟨rfl,((Ext.alloc w _).trans E.out).trans EW.out⟩
     case pos=>
     subst hso
     by_cases hn0:n=0
     case neg=>
      have HZ:=hid (show false=z by rw[hz2,decide_eq_false hn0];rfl)
      have hq:((n:Int)==0)=false:=by simp;omega
      clear hz1 hz2 hn0
      go_wp2_with (first|(go_at_call 59;refine(HI.out _ EW.out).mono ?_;rintro e w' ⟨rfl,hx⟩;replace EW:=hid (EW.out.trans hx);replace b0:=hx.cell b0;replace b1:=hx.cell b1;replace b2:=hx.cell b2;replace b3:=hx.cell b3;replace b4:=hx.cell b4;replace b5:=hx.cell b5;clear hx)|(go_at_call 60;refine(HG.out _ EW.out).mono ?_;rintro e w' ⟨rfl,hx⟩;replace EW:=hid (EW.out.trans hx);replace b0:=hx.cell b0;replace b1:=hx.cell b1;replace b2:=hx.cell b2;replace b3:=hx.cell b3;replace b4:=hx.cell b4;replace b5:=hx.cell b5;clear hx)|(go_at_call 58;refine(HY.out _ EW.out).mono ?_;rintro e w' ⟨rfl,hx⟩;replace EW:=hid (EW.out.trans hx);replace b0:=hx.cell b0;replace b1:=hx.cell b1;replace b2:=hx.cell b2;replace b3:=hx.cell b3;replace b4:=hx.cell b4;replace b5:=hx.cell b5;clear hx))
      go_ret
      obtain rfl:false=z:=HZ.out
      exact⟨rfl,((Ext.alloc w _).trans E.out).trans EW.out⟩
     case pos=>
     subst hn0
     have HZ:=hid (show true=z by rw[hz2];rfl)
     clear hz1 hz2
     go_wp2_with (first|(go_at_call 59;refine(HI.out _ EW.out).mono ?_;rintro e w' ⟨rfl,hx⟩;replace EW:=hid (EW.out.trans hx);replace b0:=hx.cell b0;replace b1:=hx.cell b1;replace b2:=hx.cell b2;replace b3:=hx.cell b3;replace b4:=hx.cell b4;replace b5:=hx.cell b5;clear hx)|(go_at_call 60;refine(HG.out _ EW.out).mono ?_;rintro e w' ⟨rfl,hx⟩;replace EW:=hid (EW.out.trans hx);replace b0:=hx.cell b0;replace b1:=hx.cell b1;replace b2:=hx.cell b2;replace b3:=hx.cell b3;replace b4:=hx.cell b4;replace b5:=hx.cell b5;clear hx)|(go_at_call 58;refine(HY.out _ EW.out).mono ?_;rintro e w' ⟨rfl,hx⟩;replace EW:=hid (EW.out.trans hx);replace b0:=hx.cell b0;replace b1:=hx.cell b1;replace b2:=hx.cell b2;replace b3:=hx.cell b3;replace b4:=hx.cell b4;replace b5:=hx.cell b5;clear hx))
     go_ret
     obtain rfl:true=z:=HZ.out
     exact⟨rfl,((Ext.alloc w _).trans E.out).trans EW.out⟩
    ·skip
     cases bi
     ·have HZ:=hid (show false=z by rw[hz2];rfl)
      clear hz1 hz2
      go_wp2_with (first|(go_at_call 59;refine(HI.out _ EW.out).mono ?_;rintro e w' ⟨rfl,hx⟩;replace EW:=hid (EW.out.trans hx);replace b0:=hx.cell b0;replace b1:=hx.cell b1;replace b2:=hx.cell b2;replace b3:=hx.cell b3;replace b4:=hx.cell b4;replace b5:=hx.cell b5;clear hx)|(go_at_call 60;refine(HG.out _ EW.out).mono ?_;rintro e w' ⟨rfl,hx⟩;replace EW:=hid (EW.out.trans hx);replace b0:=hx.cell b0;replace b1:=hx.cell b1;replace b2:=hx.cell b2;replace b3:=hx.cell b3;replace b4:=hx.cell b4;replace b5:=hx.cell b5;clear hx)|(go_at_call 58;refine(HY.out _ EW.out).mono ?_;rintro e w' ⟨rfl,hx⟩;replace EW:=hid (EW.out.trans hx);replace b0:=hx.cell b0;replace b1:=hx.cell b1;replace b2:=hx.cell b2;replace b3:=hx.cell b3;replace b4:=hx.cell b4;replace b5:=hx.cell b5;clear hx))
      go_ret
      obtain rfl:false=z:=HZ.out
      exact⟨rfl,((Ext.alloc w _).trans E.out).trans EW.out⟩
     rw[Bool.true_and] at hz2
     by_cases hs0:sg=0
     case neg=>
      have hs1:(sg==0)=false:=by simpa using hs0
      have HZ:=hid (show false=z by rw[hz2,decide_eq_false hs0];rfl)
      clear hz1 hz2 hs0
      go_wp2_with (first|(go_at_call 59;refine(HI.out _ EW.out).mono ?_;rintro e w' ⟨rfl,hx⟩;replace EW:=hid (EW.out.trans hx);replace b0:=hx.cell b0;replace b1:=hx.cell b1;replace b2:=hx.cell b2;replace b3:=hx.cell b3;replace b4:=hx.cell b4;replace b5:=hx.cell b5;clear hx)|(go_at_call 60;refine(HG.out _ EW.out).mono ?_;rintro e w' ⟨rfl,hx⟩;replace EW:=hid (EW.out.trans hx);replace b0:=hx.cell b0;replace b1:=hx.cell b1;replace b2:=hx.cell b2;replace b3:=hx.cell b3;replace b4:=hx.cell b4;replace b5:=hx.cell b5;clear hx)|(go_at_call 58;refine(HY.out _ EW.out).mono ?_;rintro e w' ⟨rfl,hx⟩;replace EW:=hid (EW.out.trans hx);replace b0:=hx.cell b0;replace b1:=hx.cell b1;replace b2:=hx.cell b2;replace b3:=hx.cell b3;replace b4:=hx.cell b4;replace b5:=hx.cell b5;clear hx))
      go_ret
      obtain rfl:false=z:=HZ.out
      exact⟨rfl,((Ext.alloc w _).trans E.out).trans EW.out⟩
     case pos=>
     subst hs0
     rw[decide_eq_true rfl,Bool.true_and] at hz2
     by_cases hnm:nm=[]
     case neg=>
      have HZ:=hid (show false=z by rw[hz2,show nm.isEmpty=false by cases nm<;>simp at hnm ⊢];rfl)
      clear hz1 hz2
      go_wp2_with (first|(go_at_call 59;refine(HI.out _ EW.out).mono ?_;rintro e w' ⟨rfl,hx⟩;replace EW:=hid (EW.out.trans hx);replace b0:=hx.cell b0;replace b1:=hx.cell b1;replace b2:=hx.cell b2;replace b3:=hx.cell b3;replace b4:=hx.cell b4;replace b5:=hx.cell b5;clear hx)|(go_at_call 60;refine(HG.out _ EW.out).mono ?_;rintro e w' ⟨rfl,hx⟩;replace EW:=hid (EW.out.trans hx);replace b0:=hx.cell b0;replace b1:=hx.cell b1;replace b2:=hx.cell b2;replace b3:=hx.cell b3;replace b4:=hx.cell b4;replace b5:=hx.cell b5;clear hx)|(go_at_call 58;refine(HY.out _ EW.out).mono ?_;rintro e w' ⟨rfl,hx⟩;replace EW:=hid (EW.out.trans hx);replace b0:=hx.cell b0;replace b1:=hx.cell b1;replace b2:=hx.cell b2;replace b3:=hx.cell b3;replace b4:=hx.cell b4;replace b5:=hx.cell b5;clear hx))
      go_ret
      obtain rfl:false=z:=HZ.out
      exact⟨rfl,((Ext.alloc w _).trans E.out).trans EW.out⟩
     case pos=>
     subst hnm
     by_cases hso:so=1
     case neg=>
      have HZ:=hid (show false=z by rw[hz2,decide_eq_false hso];rfl)
      have hq:(so==1)=false:=by simpa using hso
      clear hz1 hz2 hso
      go_wp2_with (first|(go_at_call 59;refine(HI.out _ EW.out).mono ?_;rintro e w' ⟨rfl,hx⟩;replace EW:=hid (EW.out.trans hx);replace b0:=hx.cell b0;replace b1:=hx.cell b1;replace b2:=hx.cell b2;replace b3:=hx.cell b3;replace b4:=hx.cell b4;replace b5:=hx.cell b5;clear hx)|(go_at_call 60;refine(HG.out _ EW.out).mono ?_;rintro e w' ⟨rfl,hx⟩;replace EW:=hid (EW.out.trans hx);replace b0:=hx.cell b0;replace b1:=hx.cell b1;replace b2:=hx.cell b2;replace b3:=hx.cell b3;replace b4:=hx.cell b4;replace b5:=hx.cell b5;clear hx)|(go_at_call 58;refine(HY.out _ EW.out).mono ?_;rintro e w' ⟨rfl,hx⟩;replace EW:=hid (EW.out.trans hx);replace b0:=hx.cell b0;replace b1:=hx.cell b1;replace b2:=hx.cell b2;replace b3:=hx.cell b3;replace b4:=hx.cell b4;replace b5:=hx.cell b5;clear hx))
      go_ret
      obtain rfl:false=z:=HZ.out
      exact⟨rfl,((Ext.alloc w _).trans E.out).trans EW.out⟩
     case pos=>
     subst hso
     by_cases hn0:n=0
     case neg=>
      have HZ:=hid (show false=z by rw[hz2,decide_eq_false hn0];rfl)
      have hq:((n:Int)==0)=false:=by simp;omega
      clear hz1 hz2 hn0
      go_wp2_with (first|(go_at_call 59;refine(HI.out _ EW.out).mono ?_;rintro e w' ⟨rfl,hx⟩;replace EW:=hid (EW.out.trans hx);replace b0:=hx.cell b0;replace b1:=hx.cell b1;replace b2:=hx.cell b2;replace b3:=hx.cell b3;replace b4:=hx.cell b4;replace b5:=hx.cell b5;clear hx)|(go_at_call 60;refine(HG.out _ EW.out).mono ?_;rintro e w' ⟨rfl,hx⟩;replace EW:=hid (EW.out.trans hx);replace b0:=hx.cell b0;replace b1:=hx.cell b1;replace b2:=hx.cell b2;replace b3:=hx.cell b3;replace b4:=hx.cell b4;replace b5:=hx.cell b5;clear hx)|(go_at_call 58;refine(HY.out _ EW.out).mono ?_;rintro e w' ⟨rfl,hx⟩;replace EW:=hid (EW.out.trans hx);replace b0:=hx.cell b0;replace b1:=hx.cell b1;replace b2:=hx.cell b2;replace b3:=hx.cell b3;replace b4:=hx.cell b4;replace b5:=hx.cell b5;clear hx))
      go_ret
      obtain rfl:false=z:=HZ.out
      exact⟨rfl,((Ext.alloc w _).trans E.out).trans EW.out⟩
     case pos=>
     subst hn0
     have HZ:=hid (show true=z by rw[hz2];rfl)
     clear hz1 hz2
     go_wp2_with (first|(go_at_call 59;refine(HI.out _ EW.out).mono ?_;rintro e w' ⟨rfl,hx⟩;replace EW:=hid (EW.out.trans hx);replace b0:=hx.cell b0;replace b1:=hx.cell b1;replace b2:=hx.cell b2;replace b3:=hx.cell b3;replace b4:=hx.cell b4;replace b5:=hx.cell b5;clear hx)|(go_at_call 60;refine(HG.out _ EW.out).mono ?_;rintro e w' ⟨rfl,hx⟩;replace EW:=hid (EW.out.trans hx);replace b0:=hx.cell b0;replace b1:=hx.cell b1;replace b2:=hx.cell b2;replace b3:=hx.cell b3;replace b4:=hx.cell b4;replace b5:=hx.cell b5;clear hx)|(go_at_call 58;refine(HY.out _ EW.out).mono ?_;rintro e w' ⟨rfl,hx⟩;replace EW:=hid (EW.out.trans hx);replace b0:=hx.cell b0;replace b1:=hx.cell b1;replace b2:=hx.cell b2;replace b3:=hx.cell b3;replace b4:=hx.cell b4;replace b5:=hx.cell b5;clear hx))
     go_ret
     obtain rfl:true=z:=HZ.out
     exact⟨rfl,((Ext.alloc w _).trans E.out).trans EW.out⟩
   ·subst hop
    have hz2:z=(bi&&(decide (sg=0)&&(sy&&(decide (n≤3)&&decide (so=1∨so=2))))):=by rw[hz1];unfold M.khead;rw[if_neg (by omega),if_neg (by omega),if_pos rfl,hbi,hsy,hlen,hzs,Bool.and_assoc]
    cases bi
    ·have HZ:=hid (show false=z by rw[hz2];rfl)
     clear hz1 hz2
     go_wp2_with (first|(go_at_call 59;refine(HI.out _ EW.out).mono ?_;rintro e w' ⟨rfl,hx⟩;replace EW:=hid (EW.out.trans hx);replace b0:=hx.cell b0;replace b1:=hx.cell b1;replace b2:=hx.cell b2;replace b3:=hx.cell b3;replace b4:=hx.cell b4;replace b5:=hx.cell b5;clear hx)|(go_at_call 60;refine(HG.out _ EW.out).mono ?_;rintro e w' ⟨rfl,hx⟩;replace EW:=hid (EW.out.trans hx);replace b0:=hx.cell b0;replace b1:=hx.cell b1;replace b2:=hx.cell b2;replace b3:=hx.cell b3;replace b4:=hx.cell b4;replace b5:=hx.cell b5;clear hx)|(go_at_call 58;refine(HY.out _ EW.out).mono ?_;rintro e w' ⟨rfl,hx⟩;replace EW:=hid (EW.out.trans hx);replace b0:=hx.cell b0;replace b1:=hx.cell b1;replace b2:=hx.cell b2;replace b3:=hx.cell b3;replace b4:=hx.cell b4;replace b5:=hx.cell b5;clear hx))
     go_ret
     obtain rfl:false=z:=HZ.out
     exact⟨rfl,((Ext.alloc w _).trans E.out).trans EW.out⟩
    rw[Bool.true_and] at hz2
    by_cases hs0:sg=0
    case neg=>
     have hs1:(sg==0)=false:=by simpa using hs0
     have HZ:=hid (show false=z by rw[hz2,decide_eq_false hs0];rfl)
     clear hz1 hz2 hs0
     go_wp2_with (first|(go_at_call 59;refine(HI.out _ EW.out).mono ?_;rintro e w' ⟨rfl,hx⟩;replace EW:=hid (EW.out.trans hx);replace b0:=hx.cell b0;replace b1:=hx.cell b1;replace b2:=hx.cell b2;replace b3:=hx.cell b3;replace b4:=hx.cell b4;replace b5:=hx.cell b5;clear hx)|(go_at_call 60;refine(HG.out _ EW.out).mono ?_;rintro e w' ⟨rfl,hx⟩;replace EW:=hid (EW.out.trans hx);replace b0:=hx.cell b0;replace b1:=hx.cell b1;replace b2:=hx.cell b2;replace b3:=hx.cell b3;replace b4:=hx.cell b4;replace b5:=hx.cell b5;clear hx)|(go_at_call 58;refine(HY.out _ EW.out).mono ?_;rintro e w' ⟨rfl,hx⟩;replace EW:=hid (EW.out.trans hx);replace b0:=hx.cell b0;replace b1:=hx.cell b1;replace b2:=hx.cell b2;replace b3:=hx.cell b3;replace b4:=hx.cell b4;replace b5:=hx.cell b5;clear hx))
     go_ret
     obtain rfl:false=z:=HZ.out
     exact⟨rfl,((Ext.alloc w _).trans E.out).trans EW.out⟩
    case pos=>
    subst hs0
    rw[decide_eq_true rfl,Bool.true_and] at hz2
    cases sy
    ·have HZ:=hid (show false=z by rw[hz2];rfl)
     clear hz1 hz2
     go_wp2_with (first|(go_at_call 59;refine(HI.out _ EW.out).mono ?_;rintro e w' ⟨rfl,hx⟩;replace EW:=hid (EW.out.trans hx);replace b0:=hx.cell b0;replace b1:=hx.cell b1;replace b2:=hx.cell b2;replace b3:=hx.cell b3;replace b4:=hx.cell b4;replace b5:=hx.cell b5;clear hx)|(go_at_call 60;refine(HG.out _ EW.out).mono ?_;rintro e w' ⟨rfl,hx⟩;replace EW:=hid (EW.out.trans hx);replace b0:=hx.cell b0;replace b1:=hx.cell b1;replace b2:=hx.cell b2;replace b3:=hx.cell b3;replace b4:=hx.cell b4;replace b5:=hx.cell b5;clear hx)|(go_at_call 58;refine(HY.out _ EW.out).mono ?_;rintro e w' ⟨rfl,hx⟩;replace EW:=hid (EW.out.trans hx);replace b0:=hx.cell b0;replace b1:=hx.cell b1;replace b2:=hx.cell b2;replace b3:=hx.cell b3;replace b4:=hx.cell b4;replace b5:=hx.cell b5;clear hx))
     go_ret
     obtain rfl:false=z:=HZ.out
     exact⟨rfl,((Ext.alloc w _).trans E.out).trans EW.out⟩
    rw[Bool.true_and] at hz2
    by_cases hn3:n≤3
    case neg=>
     have HZ:=hid (show false=z by rw[hz2,decide_eq_false hn3];rfl)
     have hq:decide ((n:Int)≤3)=false:=by simp;omega
     clear hz1 hz2 hn3
     go_wp2_with (first|(go_at_call 59;refine(HI.out _ EW.out).mono ?_;rintro e w' ⟨rfl,hx⟩;replace EW:=hid (EW.out.trans hx);replace b0:=hx.cell b0;replace b1:=hx.cell b1;replace b2:=hx.cell b2;replace b3:=hx.cell b3;replace b4:=hx.cell b4;replace b5:=hx.cell b5;clear hx)|(go_at_call 60;refine(HG.out _ EW.out).mono ?_;rintro e w' ⟨rfl,hx⟩;replace EW:=hid (EW.out.trans hx);replace b0:=hx.cell b0;replace b1:=hx.cell b1;replace b2:=hx.cell b2;replace b3:=hx.cell b3;replace b4:=hx.cell b4;replace b5:=hx.cell b5;clear hx)|(go_at_call 58;refine(HY.out _ EW.out).mono ?_;rintro e w' ⟨rfl,hx⟩;replace EW:=hid (EW.out.trans hx);replace b0:=hx.cell b0;replace b1:=hx.cell b1;replace b2:=hx.cell b2;replace b3:=hx.cell b3;replace b4:=hx.cell b4;replace b5:=hx.cell b5;clear hx))
     go_ret
     obtain rfl:false=z:=HZ.out
     exact⟨rfl,((Ext.alloc w _).trans E.out).trans EW.out⟩
    case pos=>
    have hq:(n:Int)≤3:=by omega
    rw[decide_eq_true hn3,Bool.true_and] at hz2
    by_cases hso:so=1
    ·subst hso
     have HZ:=hid (show true=z by rw[hz2];rfl)
     clear hz1 hz2
     go_wp2_with (first|(go_at_call 59;refine(HI.out _ EW.out).mono ?_;rintro e w' ⟨rfl,hx⟩;replace EW:=hid (EW.out.trans hx);replace b0:=hx.cell b0;replace b1:=hx.cell b1;replace b2:=hx.cell b2;replace b3:=hx.cell b3;replace b4:=hx.cell b4;replace b5:=hx.cell b5;clear hx)|(go_at_call 60;refine(HG.out _ EW.out).mono ?_;rintro e w' ⟨rfl,hx⟩;replace EW:=hid (EW.out.trans hx);replace b0:=hx.cell b0;replace b1:=hx.cell b1;replace b2:=hx.cell b2;replace b3:=hx.cell b3;replace b4:=hx.cell b4;replace b5:=hx.cell b5;clear hx)|(go_at_call 58;refine(HY.out _ EW.out).mono ?_;rintro e w' ⟨rfl,hx⟩;replace EW:=hid (EW.out.trans hx);replace b0:=hx.cell b0;replace b1:=hx.cell b1;replace b2:=hx.cell b2;replace b3:=hx.cell b3;replace b4:=hx.cell b4;replace b5:=hx.cell b5;clear hx))
     go_ret
     obtain rfl:true=z:=HZ.out
     exact⟨rfl,((Ext.alloc w _).trans E.out).trans EW.out⟩
    by_cases hso2:so=2
    ·subst hso2
     have HZ:=hid (show true=z by rw[hz2];rfl)
     clear hz1 hz2 hso
     go_wp2_with (first|(go_at_call 59;refine(HI.out _ EW.out).mono ?_;rintro e w' ⟨rfl,hx⟩;replace EW:=hid (EW.out.trans hx);replace b0:=hx.cell b0;replace b1:=hx.cell b1;replace b2:=hx.cell b2;replace b3:=hx.cell b3;replace b4:=hx.cell b4;replace b5:=hx.cell b5;clear hx)|(go_at_call 60;refine(HG.out _ EW.out).mono ?_;rintro e w' ⟨rfl,hx⟩;replace EW:=hid (EW.out.trans hx);replace b0:=hx.cell b0;replace b1:=hx.cell b1;replace b2:=hx.cell b2;replace b3:=hx.cell b3;replace b4:=hx.cell b4;replace b5:=hx.cell b5;clear hx)|(go_at_call 58;refine(HY.out _ EW.out).mono ?_;rintro e w' ⟨rfl,hx⟩;replace EW:=hid (EW.out.trans hx);replace b0:=hx.cell b0;replace b1:=hx.cell b1;replace b2:=hx.cell b2;replace b3:=hx.cell b3;replace b4:=hx.cell b4;replace b5:=hx.cell b5;clear hx))
     go_ret
     obtain rfl:true=z:=HZ.out
     exact⟨rfl,((Ext.alloc w _).trans E.out).trans EW.out⟩
    have HZ:=hid (show false=z by rw[hz2,decide_eq_false (by omega)])
    have hq1:(so==1)=false:=by simpa using hso
    have hq2:(so==2)=false:=by simpa using hso2
    clear hz1 hz2 hso hso2
    go_wp2_with (first|(go_at_call 59;refine(HI.out _ EW.out).mono ?_;rintro e w' ⟨rfl,hx⟩;replace EW:=hid (EW.out.trans hx);replace b0:=hx.cell b0;replace b1:=hx.cell b1;replace b2:=hx.cell b2;replace b3:=hx.cell b3;replace b4:=hx.cell b4;replace b5:=hx.cell b5;clear hx)|(go_at_call 60;refine(HG.out _ EW.out).mono ?_;rintro e w' ⟨rfl,hx⟩;replace EW:=hid (EW.out.trans hx);replace b0:=hx.cell b0;replace b1:=hx.cell b1;replace b2:=hx.cell b2;replace b3:=hx.cell b3;replace b4:=hx.cell b4;replace b5:=hx.cell b5;clear hx)|(go_at_call 58;refine(HY.out _ EW.out).mono ?_;rintro e w' ⟨rfl,hx⟩;replace EW:=hid (EW.out.trans hx);replace b0:=hx.cell b0;replace b1:=hx.cell b1;replace b2:=hx.cell b2;replace b3:=hx.cell b3;replace b4:=hx.cell b4;replace b5:=hx.cell b5;clear hx))
    go_ret
    obtain rfl:false=z:=HZ.out
    exact⟨rfl,((Ext.alloc w _).trans E.out).trans EW.out⟩
   ·have hz2:z=(bi&&(decide (sg=0)&&(nm.isEmpty&&(decide (5≤op∧op≤22)&&(M.kargs op n&&(decide (M.kcheck op ks=0)&&decide (so=M.kres op ks))))))):=by rw[hz1];unfold M.khead;rw[if_neg ho1,if_neg (by omega),if_neg ho4,hbi,hlen,hzs,Bool.and_assoc]
    have hb1:(op==1)=false:=by simpa using ho1
    have hb2:(op==2)=false:=by simpa using ho2
    have hb3:(op==3)=false:=by simpa using ho3
    have hb4:(op==4)=false:=by simpa using ho4
    cases bi
    ·have HZ:=hid (show false=z by rw[hz2];rfl)
     clear hz1 hz2 ho1 ho2 ho3 ho4
     go_wp2_with (first|(go_at_call 59;refine(HI.out _ EW.out).mono ?_;rintro e w' ⟨rfl,hx⟩;replace EW:=hid (EW.out.trans hx);replace b0:=hx.cell b0;replace b1:=hx.cell b1;replace b2:=hx.cell b2;replace b3:=hx.cell b3;replace b4:=hx.cell b4;replace b5:=hx.cell b5;clear hx)|(go_at_call 60;refine(HG.out _ EW.out).mono ?_;rintro e w' ⟨rfl,hx⟩;replace EW:=hid (EW.out.trans hx);replace b0:=hx.cell b0;replace b1:=hx.cell b1;replace b2:=hx.cell b2;replace b3:=hx.cell b3;replace b4:=hx.cell b4;replace b5:=hx.cell b5;clear hx)|(go_at_call 58;refine(HY.out _ EW.out).mono ?_;rintro e w' ⟨rfl,hx⟩;replace EW:=hid (EW.out.trans hx);replace b0:=hx.cell b0;replace b1:=hx.cell b1;replace b2:=hx.cell b2;replace b3:=hx.cell b3;replace b4:=hx.cell b4;replace b5:=hx.cell b5;clear hx))
     refine wp_region_D [(0,0),(1,0),(2,0),(3,0),(4,0),(5,0),(6,0),(7,0),(8,0),(9,0),(10,0),(11,0),(12,0),(13,0),(14,0),(15,0),(16,0),(17,0),(18,0),(19,0),(20,0),(21,0),(22,1),(23,0),(24,0),(25,0),(26,0),(27,0),(28,0),(29,1),(30,0),(31,0),(32,0),(33,0),(34,0),(35,0),(36,0),(37,0),(38,0),(39,1),(40,0),(41,0),(42,0)] fun wd hb=>?_
     have E6:=hid hb
     clear hb
     refine WE.p 95 (.bool false) ?_
     simp only[pX]
     refine WE.p 96 (.bool false) ?_
     simp only[pX]
     refine WE.s 97 ?_
     simp only[pX]
     refine WE.s 98 ?_
     simp only[pX]
     refine WE.s 99 ?_
     simp only[pX]
     refine WE.p 100 (.bool false) ?_
     simp only[pX]
     refine WE.p 101 (.bool false) ?_
     simp only[pX]
     refine WE.s 102 ?_
     simp only[pX]
     refine WE.s 103 ?_
     simp only[pX]
     refine WE.s 104 ?_
     simp only[pX]
     refine WE.p 105 (.bool false) ?_
     simp only[pX]
     refine WE.p 106 (.bool false) ?_
     simp only[pX]
     refine WE.s 107 ?_
     simp only[pX]
     refine WE.s 108 ?_
     simp only[pX]
     refine WE.s 109 ?_
     simp only[pX]
     refine WE.p 110 (.bool false) ?_
     simp only[pX]
     refine WE.p 111 (.bool false) ?_
     simp only[pX]
     refine WE.s 112 ?_
     simp only[pX]
     refine WE.s 113 ?_
     simp only[pX]
     refine WE.s 114 ?_
     simp only[pX]
     refine WE.s 115 ?_
     simp only[pX]
     refine WE.s 116 ?_
     simp only[pX]
     refine WE.t 117 ?_
     simp only[pX]
     refine WE.p 118 (.bool false) ?_
     simp only[pX]
     refine WE.p 119 (.bool false) ?_
     simp only[pX]
     refine WE.s 120 ?_
     simp only[pX]
     refine WE.s 121 ?_
     simp only[pX]
     refine WE.s 122 ?_
     simp only[pX]
     refine WE.s 123 ?_
     simp only[pX]
     refine WE.t 124 ?_
     simp only[pX]
     refine WE.s 125 ?_
     simp only[pX]
     refine WE.p 126 (.bool false) ?_
     simp only[pX]
     refine WE.p 127 (.bool false) ?_
     simp only[pX]
     refine WE.s 128 ?_
     simp only[pX]
     refine WE.s 129 ?_
     simp only[pX]
     refine WE.s 130 ?_
     simp only[pX]
     refine WE.s 131 ?_
     simp only[pX]
     refine WE.s 132 ?_
     simp only[pX]
     refine WE.s 133 ?_
     simp only[pX]
     refine WE.t 134 ?_
     simp only[pX]
     refine WE.s 135 ?_
     simp only[pX]
     refine WE.p 136 (.bool false) ?_
     simp only[pX]
     refine WE.p 2 (.bool false) ?_
     simp only[pX]
     refine WE.done ?_
     go_wp2_with fail
     go_ret
     obtain rfl:false=z:=HZ.out
     exact⟨rfl,((Ext.alloc w _).trans E.out).trans (EW.out.trans E6.out)⟩
    rw[Bool.true_and] at hz2
    by_cases hs0:sg=0
    case neg=>
     have hs1:(sg==0)=false:=by simpa using hs0
     have HZ:=hid (show false=z by rw[hz2,decide_eq_false hs0];rfl)
     clear hz1 hz2 hs0 ho1 ho2 ho3 ho4
     go_wp2_with (first|(go_at_call 59;refine(HI.out _ EW.out).mono ?_;rintro e w' ⟨rfl,hx⟩;replace EW:=hid (EW.out.trans hx);replace b0:=hx.cell b0;replace b1:=hx.cell b1;replace b2:=hx.cell b2;replace b3:=hx.cell b3;replace b4:=hx.cell b4;replace b5:=hx.cell b5;clear hx)|(go_at_call 60;refine(HG.out _ EW.out).mono ?_;rintro e w' ⟨rfl,hx⟩;replace EW:=hid (EW.out.trans hx);replace b0:=hx.cell b0;replace b1:=hx.cell b1;replace b2:=hx.cell b2;replace b3:=hx.cell b3;replace b4:=hx.cell b4;replace b5:=hx.cell b5;clear hx)|(go_at_call 58;refine(HY.out _ EW.out).mono ?_;rintro e w' ⟨rfl,hx⟩;replace EW:=hid (EW.out.trans hx);replace b0:=hx.cell b0;replace b1:=hx.cell b1;replace b2:=hx.cell b2;replace b3:=hx.cell b3;replace b4:=hx.cell b4;replace b5:=hx.cell b5;clear hx))
     refine wp_region_D [(0,0),(1,0),(2,0),(3,0),(4,0),(5,0),(6,0),(7,0),(8,0),(9,0),(10,0),(11,0),(12,0),(13,0),(14,0),(15,0),(16,0),(17,0),(18,0),(19,0),(20,0),(21,0),(22,1),(23,0),(24,0),(25,0),(26,0),(27,0),(28,0),(29,1),(30,0),(31,0),(32,0),(33,0),(34,0),(35,0),(36,0),(37,0),(38,0),(39,1),(40,0),(41,0),(42,0)] fun wd hb=>?_
     have E6:=hid hb
     clear hb
     refine WE.p 95 (.bool false) ?_
     simp only[pX]
     refine WE.p 96 (.bool false) ?_
     simp only[pX]
     refine WE.s 97 ?_
     simp only[pX]
     refine WE.s 98 ?_
     simp only[pX]
     refine WE.s 99 ?_
     simp only[pX]
     refine WE.p 100 (.bool false) ?_
     simp only[pX]
     refine WE.p 101 (.bool false) ?_
     simp only[pX]
     refine WE.s 102 ?_
     simp only[pX]
     refine WE.s 103 ?_
     simp only[pX]
     refine WE.s 104 ?_
     simp only[pX]
     refine WE.p 105 (.bool false) ?_
     simp only[pX]
     refine WE.p 106 (.bool false) ?_
     simp only[pX]
     refine WE.s 107 ?_
     simp only[pX]
     refine WE.s 108 ?_
     simp only[pX]
     refine WE.s 109 ?_
     simp only[pX]
     refine WE.p 110 (.bool false) ?_
     simp only[pX]
     refine WE.p 111 (.bool false) ?_
     simp only[pX]
     refine WE.s 112 ?_
     simp only[pX]
     refine WE.s 113 ?_
     simp only[pX]
     refine WE.s 114 ?_
     simp only[pX]
     refine WE.s 115 ?_
     simp only[pX]
     refine WE.s 116 ?_
     simp only[pX]
     refine WE.t 117 ?_
     simp only[pX]
     refine WE.p 118 (.bool false) ?_
     simp only[pX]
     refine WE.p 119 (.bool false) ?_
     simp only[pX]
     refine WE.s 120 ?_
     simp only[pX]
     refine WE.s 121 ?_
     simp only[pX]
     refine WE.s 122 ?_
     simp only[pX]
     refine WE.s 123 ?_
     simp only[pX]
     refine WE.t 124 ?_
     simp only[pX]
     refine WE.s 125 ?_
     simp only[pX]
     refine WE.p 126 (.bool false) ?_
     simp only[pX]
     refine WE.p 127 (.bool false) ?_
     simp only[pX]
     refine WE.s 128 ?_
     simp only[pX]
     refine WE.s 129 ?_
     simp only[pX]
     refine WE.s 130 ?_
     simp only[pX]
     refine WE.s 131 ?_
     simp only[pX]
     refine WE.s 132 ?_
     simp only[pX]
     refine WE.s 133 ?_
     simp only[pX]
     refine WE.t 134 ?_
     simp only[pX]
     refine WE.s 135 ?_
     simp only[pX]
     refine WE.p 136 (.bool false) ?_
     simp only[pX]
     refine WE.p 2 (.bool false) ?_
     simp only[pX]
     refine WE.done ?_
     go_wp2_with fail
     go_ret
     obtain rfl:false=z:=HZ.out
     exact⟨rfl,((Ext.alloc w _).trans E.out).trans (EW.out.trans E6.out)⟩
    case pos=>
    subst hs0
    rw[decide_eq_true rfl,Bool.true_and] at hz2
    by_cases hnm:nm=[]
    case neg=>
     have HZ:=hid (show false=z by rw[hz2,show nm.isEmpty=false by cases nm<;>simp at hnm ⊢];rfl)
     clear hz1 hz2 ho1 ho2 ho3 ho4
     go_wp2_with (first|(go_at_call 59;refine(HI.out _ EW.out).mono ?_;rintro e w' ⟨rfl,hx⟩;replace EW:=hid (EW.out.trans hx);replace b0:=hx.cell b0;replace b1:=hx.cell b1;replace b2:=hx.cell b2;replace b3:=hx.cell b3;replace b4:=hx.cell b4;replace b5:=hx.cell b5;clear hx)|(go_at_call 60;refine(HG.out _ EW.out).mono ?_;rintro e w' ⟨rfl,hx⟩;replace EW:=hid (EW.out.trans hx);replace b0:=hx.cell b0;replace b1:=hx.cell b1;replace b2:=hx.cell b2;replace b3:=hx.cell b3;replace b4:=hx.cell b4;replace b5:=hx.cell b5;clear hx)|(go_at_call 58;refine(HY.out _ EW.out).mono ?_;rintro e w' ⟨rfl,hx⟩;replace EW:=hid (EW.out.trans hx);replace b0:=hx.cell b0;replace b1:=hx.cell b1;replace b2:=hx.cell b2;replace b3:=hx.cell b3;replace b4:=hx.cell b4;replace b5:=hx.cell b5;clear hx))
     refine wp_region_D [(0,0),(1,0),(2,0),(3,0),(4,0),(5,0),(6,0),(7,0),(8,0),(9,0),(10,0),(11,0),(12,0),(13,0),(14,0),(15,0),(16,0),(17,0),(18,0),(19,0),(20,0),(21,0),(22,1),(23,0),(24,0),(25,0),(26,0),(27,0),(28,0),(29,1),(30,0),(31,0),(32,0),(33,0),(34,0),(35,0),(36,0),(37,0),(38,0),(39,1),(40,0),(41,0),(42,0)] fun wd hb=>?_
     have E6:=hid hb
     clear hb
     refine WE.p 95 (.bool true) ?_
     simp only[pX]
     refine WE.p 96 (.bool true) ?_
     simp only[pX]
     refine WE.p 97 (.pointer (some ⟨w.heap.size,3,none⟩)) ?_
     simp only[pX]
     refine WE.q 98 (str nm) rfl (fun w' hk=>by have ce:=hk.cell (E6.out.cell b3);go_simp) ?_
     simp only[pX]
     refine WE.p 99 (.bool false) ?_
     simp only[pX]
     refine WE.p 100 (.bool false) ?_
     simp only[pX]
     refine WE.p 101 (.bool false) ?_
     simp only[pX]
     refine WE.s 102 ?_
     simp only[pX]
     refine WE.s 103 ?_
     simp only[pX]
     refine WE.s 104 ?_
     simp only[pX]
     refine WE.p 105 (.bool false) ?_
     simp only[pX]
     refine WE.p 106 (.bool false) ?_
     simp only[pX]
     refine WE.s 107 ?_
     simp only[pX]
     refine WE.s 108 ?_
     simp only[pX]
     refine WE.s 109 ?_
     simp only[pX]
     refine WE.p 110 (.bool false) ?_
     simp only[pX]
     refine WE.p 111 (.bool false) ?_
     simp only[pX]
     refine WE.s 112 ?_
     simp only[pX]
     refine WE.s 113 ?_
     simp only[pX]
     refine WE.s 114 ?_
     simp only[pX]
     refine WE.s 115 ?_
     simp only[pX]
     refine WE.s 116 ?_
     simp only[pX]
     refine WE.t 117 ?_
     simp only[pX]
     refine WE.p 118 (.bool false) ?_
     simp only[pX]
     refine WE.p 119 (.bool false) ?_
     simp only[pX]
     refine WE.s 120 ?_
     simp only[pX]
     refine WE.s 121 ?_
     simp only[pX]
     refine WE.s 122 ?_
     simp only[pX]
     refine WE.s 123 ?_
     simp only[pX]
     refine WE.t 124 ?_
     simp only[pX]
     refine WE.s 125 ?_
     simp only[pX]
     refine WE.p 126 (.bool false) ?_
     simp only[pX]
     refine WE.p 127 (.bool false) ?_
     simp only[pX]
     refine WE.s 128 ?_
     simp only[pX]
     refine WE.s 129 ?_
     simp only[pX]
     refine WE.s 130 ?_
     simp only[pX]
     refine WE.s 131 ?_
     simp only[pX]
     refine WE.s 132 ?_
     simp only[pX]
     refine WE.s 133 ?_
     simp only[pX]
     refine WE.t 134 ?_
     simp only[pX]
     refine WE.s 135 ?_
     simp only[pX]
     refine WE.p 136 (.bool false) ?_
     simp only[pX]
     refine WE.p 2 (.bool false) ?_
     simp only[pX]
     refine WE.done ?_
     go_wp2_with fail
     go_ret
     obtain rfl:false=z:=HZ.out
     exact⟨rfl,((Ext.alloc w _).trans E.out).trans (EW.out.trans E6.out)⟩
    case pos=>
    subst hnm
    by_cases hlo:5≤op
    case neg=>
     have HZ:=hid (show false=z by rw[hz2,decide_eq_false (show ¬(5≤op∧op≤22) by omega)];rfl)
     have hq:decide (5≤op)=false:=by simpa using hlo
     clear hz1 hz2 hlo ho1 ho2 ho3 ho4
     go_wp2_with (first|(go_at_call 59;refine(HI.out _ EW.out).mono ?_;rintro e w' ⟨rfl,hx⟩;replace EW:=hid (EW.out.trans hx);replace b0:=hx.cell b0;replace b1:=hx.cell b1;replace b2:=hx.cell b2;replace b3:=hx.cell b3;replace b4:=hx.cell b4;replace b5:=hx.cell b5;clear hx)|(go_at_call 60;refine(HG.out _ EW.out).mono ?_;rintro e w' ⟨rfl,hx⟩;replace EW:=hid (EW.out.trans hx);replace b0:=hx.cell b0;replace b1:=hx.cell b1;replace b2:=hx.cell b2;replace b3:=hx.cell b3;replace b4:=hx.cell b4;replace b5:=hx.cell b5;clear hx)|(go_at_call 58;refine(HY.out _ EW.out).mono ?_;rintro e w' ⟨rfl,hx⟩;replace EW:=hid (EW.out.trans hx);replace b0:=hx.cell b0;replace b1:=hx.cell b1;replace b2:=hx.cell b2;replace b3:=hx.cell b3;replace b4:=hx.cell b4;replace b5:=hx.cell b5;clear hx))
     refine wp_region_D [(0,0),(1,0),(2,0),(3,0),(4,0),(5,0),(6,0),(7,0),(8,0),(9,0),(10,0),(11,0),(12,0),(13,0),(14,0),(15,0),(16,0),(17,0),(18,0),(19,0),(20,0),(21,0),(22,1),(23,0),(24,0),(25,0),(26,0),(27,0),(28,0),(29,1),(30,0),(31,0),(32,0),(33,0),(34,0),(35,0),(36,0),(37,0),(38,0),(39,1),(40,0),(41,0),(42,0)] fun wd hb=>?_
     have E6:=hid hb
     clear hb
     refine WE.p 95 (.bool true) ?_
     simp only[pX]
     refine WE.p 96 (.bool true) ?_
     simp only[pX]
     refine WE.p 97 (.pointer (some ⟨w.heap.size,3,none⟩)) ?_
     simp only[pX]
     refine WE.q 98 (str []) rfl (fun w' hk=>by have ce:=hk.cell (E6.out.cell b3);go_simp) ?_
     simp only[pX]
     refine WE.p 99 (.bool true) ?_
     simp only[pX]
     refine WE.p 100 (.bool true) ?_
     simp only[pX]
     refine WE.p 101 (.bool true) ?_
     simp only[pX]
     refine WE.p 102 (.pointer (some ⟨w.heap.size,0,none⟩)) ?_
     simp only[pX]
     refine WE.q 103 (.int .i64 op) rfl (fun w' hk=>by have ce:=hk.cell (E6.out.cell b0);go_simp) ?_
     simp only[pX]
     refine WE.p 104 (.bool false) ?_
     simp only[pX]
     refine WE.p 105 (.bool false) ?_
     simp only[pX]
     refine WE.p 106 (.bool false) ?_
     simp only[pX]
     refine WE.s 107 ?_
     simp only[pX]
     refine WE.s 108 ?_
     simp only[pX]
     refine WE.s 109 ?_
     simp only[pX]
     refine WE.p 110 (.bool false) ?_
     simp only[pX]
     refine WE.p 111 (.bool false) ?_
     simp only[pX]
     refine WE.s 112 ?_
     simp only[pX]
     refine WE.s 113 ?_
     simp only[pX]
     refine WE.s 114 ?_
     simp only[pX]
     refine WE.s 115 ?_
     simp only[pX]
     refine WE.s 116 ?_
     simp only[pX]
     refine WE.t 117 ?_
     simp only[pX]
     refine WE.p 118 (.bool false) ?_
     simp only[pX]
     refine WE.p 119 (.bool false) ?_
     simp only[pX]
     refine WE.s 120 ?_
     simp only[pX]
     refine WE.s 121 ?_
     simp only[pX]
     refine WE.s 122 ?_
     simp only[pX]
     refine WE.s 123 ?_
     simp only[pX]
     refine WE.t 124 ?_
     simp only[pX]
     refine WE.s 125 ?_
     simp only[pX]
     refine WE.p 126 (.bool false) ?_
     simp only[pX]
     refine WE.p 127 (.bool false) ?_
     simp only[pX]
     refine WE.s 128 ?_
     simp only[pX]
     refine WE.s 129 ?_
     simp only[pX]
     refine WE.s 130 ?_
     simp only[pX]
     refine WE.s 131 ?_
     simp only[pX]
     refine WE.s 132 ?_
     simp only[pX]
     refine WE.s 133 ?_
     simp only[pX]
     refine WE.t 134 ?_
     simp only[pX]
     refine WE.s 135 ?_
     simp only[pX]
     refine WE.p 136 (.bool false) ?_
     simp only[pX]
     refine WE.p 2 (.bool false) ?_
     simp only[pX]
     refine WE.done ?_
     go_wp2_with fail
     go_ret
     obtain rfl:false=z:=HZ.out
     exact⟨rfl,((Ext.alloc w _).trans E.out).trans (EW.out.trans E6.out)⟩
    case pos=>
    by_cases hhi:op≤22
    case neg=>
     have HZ:=hid (show false=z by rw[hz2,decide_eq_false (show ¬(5≤op∧op≤22) by omega)];rfl)
     have hq:decide (op≤22)=false:=by simpa using hhi
     clear hz1 hz2 hhi ho1 ho2 ho3 ho4
     go_wp2_with (first|(go_at_call 59;refine(HI.out _ EW.out).mono ?_;rintro e w' ⟨rfl,hx⟩;replace EW:=hid (EW.out.trans hx);replace b0:=hx.cell b0;replace b1:=hx.cell b1;replace b2:=hx.cell b2;replace b3:=hx.cell b3;replace b4:=hx.cell b4;replace b5:=hx.cell b5;clear hx)|(go_at_call 60;refine(HG.out _ EW.out).mono ?_;rintro e w' ⟨rfl,hx⟩;replace EW:=hid (EW.out.trans hx);replace b0:=hx.cell b0;replace b1:=hx.cell b1;replace b2:=hx.cell b2;replace b3:=hx.cell b3;replace b4:=hx.cell b4;replace b5:=hx.cell b5;clear hx)|(go_at_call 58;refine(HY.out _ EW.out).mono ?_;rintro e w' ⟨rfl,hx⟩;replace EW:=hid (EW.out.trans hx);replace b0:=hx.cell b0;replace b1:=hx.cell b1;replace b2:=hx.cell b2;replace b3:=hx.cell b3;replace b4:=hx.cell b4;replace b5:=hx.cell b5;clear hx))
     refine wp_region_D [(0,0),(1,0),(2,0),(3,0),(4,0),(5,0),(6,0),(7,0),(8,0),(9,0),(10,0),(11,0),(12,0),(13,0),(14,0),(15,0),(16,0),(17,0),(18,0),(19,0),(20,0),(21,0),(22,1),(23,0),(24,0),(25,0),(26,0),(27,0),(28,0),(29,1),(30,0),(31,0),(32,0),(33,0),(34,0),(35,0),(36,0),(37,0),(38,0),(39,1),(40,0),(41,0),(42,0)] fun wd hb=>?_
     have E6:=hid hb
     clear hb
     refine WE.p 95 (.bool true) ?_
     simp only[pX]
     refine WE.p 96 (.bool true) ?_
     simp only[pX]
     refine WE.p 97 (.pointer (some ⟨w.heap.size,3,none⟩)) ?_
     simp only[pX]
     refine WE.q 98 (str []) rfl (fun w' hk=>by have ce:=hk.cell (E6.out.cell b3);go_simp) ?_
     simp only[pX]
     refine WE.p 99 (.bool true) ?_
     simp only[pX]
     refine WE.p 100 (.bool true) ?_
     simp only[pX]
     refine WE.p 101 (.bool true) ?_
     simp only[pX]
     refine WE.p 102 (.pointer (some ⟨w.heap.size,0,none⟩)) ?_
     simp only[pX]
     refine WE.q 103 (.int .i64 op) rfl (fun w' hk=>by have ce:=hk.cell (E6.out.cell b0);go_simp) ?_
     simp only[pX]
     refine WE.p 104 (.bool true) ?_
     simp only[pX]
     refine WE.p 105 (.bool true) ?_
     simp only[pX]
     refine WE.p 106 (.bool true) ?_
     simp only[pX]
     refine WE.p 107 (.pointer (some ⟨w.heap.size,0,none⟩)) ?_
     simp only[pX]
     refine WE.q 108 (.int .i64 op) rfl (fun w' hk=>by have ce:=hk.cell (E6.out.cell b0);go_simp) ?_
     simp only[pX]
     refine WE.p 109 (.bool false) ?_
     simp only[pX]
     refine WE.p 110 (.bool false) ?_
     simp only[pX]
     refine WE.p 111 (.bool false) ?_
     simp only[pX]
     refine WE.s 112 ?_
     simp only[pX]
     refine WE.s 113 ?_
     simp only[pX]
     refine WE.s 114 ?_
     simp only[pX]
     refine WE.s 115 ?_
     simp only[pX]
     refine WE.s 116 ?_
     simp only[pX]
     refine WE.t 117 ?_
     simp only[pX]
     refine WE.p 118 (.bool false) ?_
     simp only[pX]
     refine WE.p 119 (.bool false) ?_
     simp only[pX]
     refine WE.s 120 ?_
     simp only[pX]
     refine WE.s 121 ?_
     simp only[pX]
     refine WE.s 122 ?_
     simp only[pX]
     refine WE.s 123 ?_
     simp only[pX]
     refine WE.t 124 ?_
     simp only[pX]
     refine WE.s 125 ?_
     simp only[pX]
     refine WE.p 126 (.bool false) ?_
     simp only[pX]
     refine WE.p 127 (.bool false) ?_
     simp only[pX]
     refine WE.s 128 ?_
     simp only[pX]
     refine WE.s 129 ?_
     simp only[pX]
     refine WE.s 130 ?_
     simp only[pX]
     refine WE.s 131 ?_
     simp only[pX]
     refine WE.s 132 ?_
     simp only[pX]
     refine WE.s 133 ?_
     simp only[pX]
     refine WE.t 134 ?_
     simp only[pX]
     refine WE.s 135 ?_
     simp only[pX]
     refine WE.p 136 (.bool false) ?_
     simp only[pX]
     refine WE.p 2 (.bool false) ?_
     simp only[pX]
     refine WE.done ?_
     go_wp2_with fail
     go_ret
     obtain rfl:false=z:=HZ.out
     exact⟨rfl,((Ext.alloc w _).trans E.out).trans (EW.out.trans E6.out)⟩
    case pos=>
    rw[decide_eq_true (show 5≤op∧op≤22 from⟨hlo,hhi⟩),Bool.true_and] at hz2
    obtain⟨ar,har⟩:∃ar,M.kargs op n=ar:=⟨_,rfl⟩
    have HA:=hid (show ∀w',Ext wr w'→Calls Tryz.prog 81 #[.int .i64 op,.int .i64 (n:Int)] w' (GivesB w' ar) from fun w' e=>har▸kargs_n ⟨hlo,hhi⟩ n w')
    rw[har] at hz2
    cases ar
    ·have HZ:=hid (show false=z by rw[hz2];rfl)
     clear hz1 hz2 har ho1 ho2 ho3 ho4
     go_wp2_with (first|(go_at_call 59;refine(HI.out _ EW.out).mono ?_;rintro e w' ⟨rfl,hx⟩;replace EW:=hid (EW.out.trans hx);replace b0:=hx.cell b0;replace b1:=hx.cell b1;replace b2:=hx.cell b2;replace b3:=hx.cell b3;replace b4:=hx.cell b4;replace b5:=hx.cell b5;clear hx)|(go_at_call 60;refine(HG.out _ EW.out).mono ?_;rintro e w' ⟨rfl,hx⟩;replace EW:=hid (EW.out.trans hx);replace b0:=hx.cell b0;replace b1:=hx.cell b1;replace b2:=hx.cell b2;replace b3:=hx.cell b3;replace b4:=hx.cell b4;replace b5:=hx.cell b5;clear hx)|(go_at_call 58;refine(HY.out _ EW.out).mono ?_;rintro e w' ⟨rfl,hx⟩;replace EW:=hid (EW.out.trans hx);replace b0:=hx.cell b0;replace b1:=hx.cell b1;replace b2:=hx.cell b2;replace b3:=hx.cell b3;replace b4:=hx.cell b4;replace b5:=hx.cell b5;clear hx))
     refine wp_region_D [(0,0),(1,0),(2,0),(3,0),(4,0),(5,0),(6,0),(7,0),(8,0),(9,0),(10,0),(11,0),(12,0),(13,0),(14,0),(15,0),(16,0),(17,0),(18,0),(19,0),(20,0),(21,0),(22,1),(23,0),(24,0),(25,0),(26,0),(27,0),(28,0),(29,1),(30,0),(31,0),(32,0),(33,0),(34,0),(35,0),(36,0),(37,0),(38,0),(39,1),(40,0),(41,0),(42,0)] fun wd hb=>?_
     have E6:=hid hb
     clear hb
     refine WE.p 95 (.bool true) ?_
     simp only[pX]
     refine WE.p 96 (.bool true) ?_
     simp only[pX]
     refine WE.p 97 (.pointer (some ⟨w.heap.size,3,none⟩)) ?_
     simp only[pX]
     refine WE.q 98 (str []) rfl (fun w' hk=>by have ce:=hk.cell (E6.out.cell b3);go_simp) ?_
     simp only[pX]
     refine WE.p 99 (.bool true) ?_
     simp only[pX]
     refine WE.p 100 (.bool true) ?_
     simp only[pX]
     refine WE.p 101 (.bool true) ?_
     simp only[pX]
     refine WE.p 102 (.pointer (some ⟨w.heap.size,0,none⟩)) ?_
     simp only[pX]
     refine WE.q 103 (.int .i64 op) rfl (fun w' hk=>by have ce:=hk.cell (E6.out.cell b0);go_simp) ?_
     simp only[pX]
     refine WE.p 104 (.bool true) ?_
     simp only[pX]
     refine WE.p 105 (.bool true) ?_
     simp only[pX]
     refine WE.p 106 (.bool true) ?_
     simp only[pX]
     refine WE.p 107 (.pointer (some ⟨w.heap.size,0,none⟩)) ?_
     simp only[pX]
     refine WE.q 108 (.int .i64 op) rfl (fun w' hk=>by have ce:=hk.cell (E6.out.cell b0);go_simp) ?_
     simp only[pX]
     refine WE.p 109 (.bool true) ?_
     simp only[pX]
     refine WE.p 110 (.bool true) ?_
     simp only[pX]
     refine WE.p 111 (.bool true) ?_
     simp only[pX]
     refine WE.p 112 (.pointer (some ⟨w.heap.size,0,none⟩)) ?_
     simp only[pX]
     refine WE.q 113 (.int .i64 op) rfl (fun w' hk=>by have ce:=hk.cell (E6.out.cell b0);go_simp) ?_
     simp only[pX]
     refine WE.p 114 (.pointer (some ⟨w.heap.size,5,none⟩)) ?_
     simp only[pX]
     refine WE.q 115 (.slice A n c) rfl (fun w' hk=>by have ce:=hk.cell (E6.out.cell b5);go_simp) ?_
     simp only[pX]
     refine WE.p 116 (.int .i64 (n:Int)) ?_
     simp only[pX]
     refine WE.c 117 ((HA.out _ (EW.out.trans E6.out)).mono ?_)
     rintro e w6 ⟨rfl,hb6⟩
     refine⟨_,rfl,hb6,?_⟩
     replace E6:=hid (E6.out.trans hb6)
     clear hb6
     simp only[pX]
     refine WE.p 118 (.bool false) ?_
     simp only[pX]
     refine WE.p 119 (.bool false) ?_
     simp only[pX]
     refine WE.s 120 ?_
     simp only[pX]
     refine WE.s 121 ?_
     simp only[pX]
     refine WE.s 122 ?_
     simp only[pX]
     refine WE.s 123 ?_
     simp only[pX]
     refine WE.t 124 ?_
     simp only[pX]
     refine WE.s 125 ?_
     simp only[pX]
     refine WE.p 126 (.bool false) ?_
     simp only[pX]
     refine WE.p 127 (.bool false) ?_
     simp only[pX]
     refine WE.s 128 ?_
     simp only[pX]
     refine WE.s 129 ?_
     simp only[pX]
     refine WE.s 130 ?_
     simp only[pX]
     refine WE.s 131 ?_
     simp only[pX]
     refine WE.s 132 ?_
     simp only[pX]
     refine WE.s 133 ?_
     simp only[pX]
     refine WE.t 134 ?_
     simp only[pX]
     refine WE.s 135 ?_
     simp only[pX]
     refine WE.p 136 (.bool false) ?_
     simp only[pX]
     refine WE.p 2 (.bool false) ?_
     simp only[pX]
     refine WE.done ?_
     go_wp2_with fail
     go_ret
     obtain rfl:false=z:=HZ.out
     exact⟨rfl,((Ext.alloc w _).trans E.out).trans (EW.out.trans E6.out)⟩
    have har2:M.kargs op ks.length=true:=by rw[HN.out];exact har
    obtain⟨ck,hck⟩:∃ck,M.kcheck op ks=ck:=⟨_,rfl⟩
    obtain⟨rs,hrs⟩:∃rs,M.kres op ks=rs:=⟨_,rfl⟩
    have HK:=hid (show ∀w',Ext wr w'→Calls Tryz.prog 82 #[.int .i64 op,.slice A n c] w' (GivesN w' ck) from fun w' e=>hck▸kcheck_n ⟨hlo,hhi⟩ (HT.out.up (((Ext.alloc w _).trans E.out).trans e)) har2)
    have HR:=hid (show ∀w',Ext wr w'→Calls Tryz.prog 83 #[.int .i64 op,.slice A n c] w' (GivesN w' rs) from fun w' e=>hrs▸kres_n ⟨hlo,hhi⟩ (HT.out.up (((Ext.alloc w _).trans E.out).trans e)) har2)
    rw[Bool.true_and,hck,hrs] at hz2
    by_cases hc0:ck=0
    case neg=>
     have HZ:=hid (show false=z by rw[hz2,decide_eq_false hc0];rfl)
     have hq:(ck==0)=false:=by simpa using hc0
     clear hz1 hz2 har har2 hck hrs hc0 ho1 ho2 ho3 ho4
     go_wp2_with (first|(go_at_call 59;refine(HI.out _ EW.out).mono ?_;rintro e w' ⟨rfl,hx⟩;replace EW:=hid (EW.out.trans hx);replace b0:=hx.cell b0;replace b1:=hx.cell b1;replace b2:=hx.cell b2;replace b3:=hx.cell b3;replace b4:=hx.cell b4;replace b5:=hx.cell b5;clear hx)|(go_at_call 60;refine(HG.out _ EW.out).mono ?_;rintro e w' ⟨rfl,hx⟩;replace EW:=hid (EW.out.trans hx);replace b0:=hx.cell b0;replace b1:=hx.cell b1;replace b2:=hx.cell b2;replace b3:=hx.cell b3;replace b4:=hx.cell b4;replace b5:=hx.cell b5;clear hx)|(go_at_call 58;refine(HY.out _ EW.out).mono ?_;rintro e w' ⟨rfl,hx⟩;replace EW:=hid (EW.out.trans hx);replace b0:=hx.cell b0;replace b1:=hx.cell b1;replace b2:=hx.cell b2;replace b3:=hx.cell b3;replace b4:=hx.cell b4;replace b5:=hx.cell b5;clear hx))
     refine wp_region_D [(0,0),(1,0),(2,0),(3,0),(4,0),(5,0),(6,0),(7,0),(8,0),(9,0),(10,0),(11,0),(12,0),(13,0),(14,0),(15,0),(16,0),(17,0),(18,0),(19,0),(20,0),(21,0),(22,1),(23,0),(24,0),(25,0),(26,0),(27,0),(28,0),(29,1),(30,0),(31,0),(32,0),(33,0),(34,0),(35,0),(36,0),(37,0),(38,0),(39,1),(40,0),(41,0),(42,0)] fun wd hb=>?_
     have E6:=hid hb
     clear hb
     refine WE.p 95 (.bool true) ?_
     simp only[pX]
     refine WE.p 96 (.bool true) ?_
     simp only[pX]
     refine WE.p 97 (.pointer (some ⟨w.heap.size,3,none⟩)) ?_
     simp only[pX]
     refine WE.q 98 (str []) rfl (fun w' hk=>by have ce:=hk.cell (E6.out.cell b3);go_simp) ?_
     simp only[pX]
     refine WE.p 99 (.bool true) ?_
     simp only[pX]
     refine WE.p 100 (.bool true) ?_
     simp only[pX]
     refine WE.p 101 (.bool true) ?_
     simp only[pX]
     refine WE.p 102 (.pointer (some ⟨w.heap.size,0,none⟩)) ?_
     simp only[pX]
     refine WE.q 103 (.int .i64 op) rfl (fun w' hk=>by have ce:=hk.cell (E6.out.cell b0);go_simp) ?_
     simp only[pX]
     refine WE.p 104 (.bool true) ?_
     simp only[pX]
     refine WE.p 105 (.bool true) ?_
     simp only[pX]
     refine WE.p 106 (.bool true) ?_
     simp only[pX]
     refine WE.p 107 (.pointer (some ⟨w.heap.size,0,none⟩)) ?_
     simp only[pX]
     refine WE.q 108 (.int .i64 op) rfl (fun w' hk=>by have ce:=hk.cell (E6.out.cell b0);go_simp) ?_
     simp only[pX]
     refine WE.p 109 (.bool true) ?_
     simp only[pX]
     refine WE.p 110 (.bool true) ?_
     simp only[pX]
     refine WE.p 111 (.bool true) ?_
     simp only[pX]
     refine WE.p 112 (.pointer (some ⟨w.heap.size,0,none⟩)) ?_
     simp only[pX]
     refine WE.q 113 (.int .i64 op) rfl (fun w' hk=>by have ce:=hk.cell (E6.out.cell b0);go_simp) ?_
     simp only[pX]
     refine WE.p 114 (.pointer (some ⟨w.heap.size,5,none⟩)) ?_
     simp only[pX]
     refine WE.q 115 (.slice A n c) rfl (fun w' hk=>by have ce:=hk.cell (E6.out.cell b5);go_simp) ?_
     simp only[pX]
     refine WE.p 116 (.int .i64 (n:Int)) ?_
     simp only[pX]
     refine WE.c 117 ((HA.out _ (EW.out.trans E6.out)).mono ?_)
     rintro e w6 ⟨rfl,hb6⟩
     refine⟨_,rfl,hb6,?_⟩
     replace E6:=hid (E6.out.trans hb6)
     clear hb6
     simp only[pX]
     refine WE.p 118 (.bool true) ?_
     simp only[pX]
     refine WE.p 119 (.bool true) ?_
     simp only[pX]
     refine WE.p 120 (.pointer (some ⟨w.heap.size,0,none⟩)) ?_
     simp only[pX]
     refine WE.q 121 (.int .i64 op) rfl (fun w' hk=>by have ce:=hk.cell (E6.out.cell b0);go_simp) ?_
     simp only[pX]
     refine WE.p 122 (.pointer (some ⟨w.heap.size,5,none⟩)) ?_
     simp only[pX]
     refine WE.q 123 (.slice A n c) rfl (fun w' hk=>by have ce:=hk.cell (E6.out.cell b5);go_simp) ?_
     simp only[pX]
     refine WE.c 124 ((HK.out _ (EW.out.trans E6.out)).mono ?_)
     rintro e w6 ⟨rfl,hb6⟩
     refine⟨_,rfl,hb6,?_⟩
     replace E6:=hid (E6.out.trans hb6)
     clear hb6
     simp only[pX]
     refine WE.p 125 (.bool false) ?_
     simp only[pX]
     refine WE.p 126 (.bool false) ?_
     simp only[pX]
     refine WE.p 127 (.bool false) ?_
     simp only[pX]
     refine WE.s 128 ?_
     simp only[pX]
     refine WE.s 129 ?_
     simp only[pX]
     refine WE.s 130 ?_
     simp only[pX]
     refine WE.s 131 ?_
     simp only[pX]
     refine WE.s 132 ?_
     simp only[pX]
     refine WE.s 133 ?_
     simp only[pX]
     refine WE.t 134 ?_
     simp only[pX]
     refine WE.s 135 ?_
     simp only[pX]
     refine WE.p 136 (.bool false) ?_
     simp only[pX]
     refine WE.p 2 (.bool false) ?_
     simp only[pX]
     refine WE.done ?_
     go_wp2_with fail
     go_ret
     obtain rfl:false=z:=HZ.out
     exact⟨rfl,((Ext.alloc w _).trans E.out).trans (EW.out.trans E6.out)⟩
    case pos=>
    subst hc0
    by_cases hso:so=rs
    case neg=>
     have HZ:=hid (show false=z by rw[hz2,decide_eq_false hso];rfl)
     have hq:(so==rs)=false:=by simpa using hso
     clear hz1 hz2 har har2 hck hrs hso ho1 ho2 ho3 ho4
     go_wp2_with (first|(go_at_call 59;refine(HI.out _ EW.out).mono ?_;rintro e w' ⟨rfl,hx⟩;replace EW:=hid (EW.out.trans hx);replace b0:=hx.cell b0;replace b1:=hx.cell b1;replace b2:=hx.cell b2;replace b3:=hx.cell b3;replace b4:=hx.cell b4;replace b5:=hx.cell b5;clear hx)|(go_at_call 60;refine(HG.out _ EW.out).mono ?_;rintro e w' ⟨rfl,hx⟩;replace EW:=hid (EW.out.trans hx);replace b0:=hx.cell b0;replace b1:=hx.cell b1;replace b2:=hx.cell b2;replace b3:=hx.cell b3;replace b4:=hx.cell b4;replace b5:=hx.cell b5;clear hx)|(go_at_call 58;refine(HY.out _ EW.out).mono ?_;rintro e w' ⟨rfl,hx⟩;replace EW:=hid (EW.out.trans hx);replace b0:=hx.cell b0;replace b1:=hx.cell b1;replace b2:=hx.cell b2;replace b3:=hx.cell b3;replace b4:=hx.cell b4;replace b5:=hx.cell b5;clear hx))
     refine wp_region_D [(0,0),(1,0),(2,0),(3,0),(4,0),(5,0),(6,0),(7,0),(8,0),(9,0),(10,0),(11,0),(12,0),(13,0),(14,0),(15,0),(16,0),(17,0),(18,0),(19,0),(20,0),(21,0),(22,1),(23,0),(24,0),(25,0),(26,0),(27,0),(28,0),(29,1),(30,0),(31,0),(32,0),(33,0),(34,0),(35,0),(36,0),(37,0),(38,0),(39,1),(40,0),(41,0),(42,0)] fun wd hb=>?_
     have E6:=hid hb
     clear hb
     refine WE.p 95 (.bool true) ?_
     simp only[pX]
     refine WE.p 96 (.bool true) ?_
     simp only[pX]
     refine WE.p 97 (.pointer (some ⟨w.heap.size,3,none⟩)) ?_
     simp only[pX]
     refine WE.q 98 (str []) rfl (fun w' hk=>by have ce:=hk.cell (E6.out.cell b3);go_simp) ?_
     simp only[pX]
     refine WE.p 99 (.bool true) ?_
     simp only[pX]
     refine WE.p 100 (.bool true) ?_
     simp only[pX]
     refine WE.p 101 (.bool true) ?_
     simp only[pX]
     refine WE.p 102 (.pointer (some ⟨w.heap.size,0,none⟩)) ?_
     simp only[pX]
     refine WE.q 103 (.int .i64 op) rfl (fun w' hk=>by have ce:=hk.cell (E6.out.cell b0);go_simp) ?_
     simp only[pX]
     refine WE.p 104 (.bool true) ?_
     simp only[pX]
     refine WE.p 105 (.bool true) ?_
     simp only[pX]
     refine WE.p 106 (.bool true) ?_
     simp only[pX]
     refine WE.p 107 (.pointer (some ⟨w.heap.size,0,none⟩)) ?_
     simp only[pX]
     refine WE.q 108 (.int .i64 op) rfl (fun w' hk=>by have ce:=hk.cell (E6.out.cell b0);go_simp) ?_
     simp only[pX]
     refine WE.p 109 (.bool true) ?_
     simp only[pX]
     refine WE.p 110 (.bool true) ?_
     simp only[pX]
     refine WE.p 111 (.bool true) ?_
     simp only[pX]
     refine WE.p 112 (.pointer (some ⟨w.heap.size,0,none⟩)) ?_
     simp only[pX]
     refine WE.q 113 (.int .i64 op) rfl (fun w' hk=>by have ce:=hk.cell (E6.out.cell b0);go_simp) ?_
     simp only[pX]
     refine WE.p 114 (.pointer (some ⟨w.heap.size,5,none⟩)) ?_
     simp only[pX]
     refine WE.q 115 (.slice A n c) rfl (fun w' hk=>by have ce:=hk.cell (E6.out.cell b5);go_simp) ?_
     simp only[pX]
     refine WE.p 116 (.int .i64 (n:Int)) ?_
     simp only[pX]
     refine WE.c 117 ((HA.out _ (EW.out.trans E6.out)).mono ?_)
     rintro e w6 ⟨rfl,hb6⟩
     refine⟨_,rfl,hb6,?_⟩
     replace E6:=hid (E6.out.trans hb6)
     clear hb6
     simp only[pX]
     refine WE.p 118 (.bool true) ?_
     simp only[pX]
     refine WE.p 119 (.bool true) ?_
     simp only[pX]
     refine WE.p 120 (.pointer (some ⟨w.heap.size,0,none⟩)) ?_
     simp only[pX]
     refine WE.q 121 (.int .i64 op) rfl (fun w' hk=>by have ce:=hk.cell (E6.out.cell b0);go_simp) ?_
     simp only[pX]
     refine WE.p 122 (.pointer (some ⟨w.heap.size,5,none⟩)) ?_
     simp only[pX]
     refine WE.q 123 (.slice A n c) rfl (fun w' hk=>by have ce:=hk.cell (E6.out.cell b5);go_simp) ?_
     simp only[pX]
     refine WE.c 124 ((HK.out _ (EW.out.trans E6.out)).mono ?_)
     rintro e w6 ⟨rfl,hb6⟩
     refine⟨_,rfl,hb6,?_⟩
     replace E6:=hid (E6.out.trans hb6)
     clear hb6
     simp only[pX]
     refine WE.p 125 (.bool true) ?_
     simp only[pX]
     refine WE.p 126 (.bool true) ?_
     simp only[pX]
     refine WE.p 127 (.bool true) ?_
     simp only[pX]
     refine WE.p 128 (.pointer (some ⟨w.heap.size,4,none⟩)) ?_
     simp only[pX]
     refine WE.q 129 (.int .i64 so) rfl (fun w' hk=>by have ce:=hk.cell (E6.out.cell b4);go_simp) ?_
     simp only[pX]
     refine WE.p 130 (.pointer (some ⟨w.heap.size,0,none⟩)) ?_
     simp only[pX]
     refine WE.q 131 (.int .i64 op) rfl (fun w' hk=>by have ce:=hk.cell (E6.out.cell b0);go_simp) ?_
     simp only[pX]
     refine WE.p 132 (.pointer (some ⟨w.heap.size,5,none⟩)) ?_
     simp only[pX]
     refine WE.q 133 (.slice A n c) rfl (fun w' hk=>by have ce:=hk.cell (E6.out.cell b5);go_simp) ?_
     simp only[pX]
     refine WE.c 134 ((HR.out _ (EW.out.trans E6.out)).mono ?_)
     rintro e w6 ⟨rfl,hb6⟩
     refine⟨_,rfl,hb6,?_⟩
     replace E6:=hid (E6.out.trans hb6)
     clear hb6
     simp only[pX]
     refine WE.p 135 (.bool false) ?_
     simp only[pX]
     refine WE.p 136 (.bool false) ?_
     simp only[pX]
     refine WE.p 2 (.bool false) ?_
     simp only[pX]
     refine WE.done ?_
     go_wp2_with fail
     go_ret
     obtain rfl:false=z:=HZ.out
     exact⟨rfl,((Ext.alloc w _).trans E.out).trans (EW.out.trans E6.out)⟩
    case pos=>
    subst hso
    have HZ:=hid (show true=z by rw[hz2];simp)
    clear hz1 hz2 har har2 hck hrs ho1 ho2 ho3 ho4
    go_wp2_with (first|(go_at_call 59;refine(HI.out _ EW.out).mono ?_;rintro e w' ⟨rfl,hx⟩;replace EW:=hid (EW.out.trans hx);replace b0:=hx.cell b0;replace b1:=hx.cell b1;replace b2:=hx.cell b2;replace b3:=hx.cell b3;replace b4:=hx.cell b4;replace b5:=hx.cell b5;clear hx)|(go_at_call 60;refine(HG.out _ EW.out).mono ?_;rintro e w' ⟨rfl,hx⟩;replace EW:=hid (EW.out.trans hx);replace b0:=hx.cell b0;replace b1:=hx.cell b1;replace b2:=hx.cell b2;replace b3:=hx.cell b3;replace b4:=hx.cell b4;replace b5:=hx.cell b5;clear hx)|(go_at_call 58;refine(HY.out _ EW.out).mono ?_;rintro e w' ⟨rfl,hx⟩;replace EW:=hid (EW.out.trans hx);replace b0:=hx.cell b0;replace b1:=hx.cell b1;replace b2:=hx.cell b2;replace b3:=hx.cell b3;replace b4:=hx.cell b4;replace b5:=hx.cell b5;clear hx))
    refine wp_region_D [(0,0),(1,0),(2,0),(3,0),(4,0),(5,0),(6,0),(7,0),(8,0),(9,0),(10,0),(11,0),(12,0),(13,0),(14,0),(15,0),(16,0),(17,0),(18,0),(19,0),(20,0),(21,0),(22,1),(23,0),(24,0),(25,0),(26,0),(27,0),(28,0),(29,1),(30,0),(31,0),(32,0),(33,0),(34,0),(35,0),(36,0),(37,0),(38,0),(39,1),(40,0),(41,0),(42,0)] fun wd hb=>?_
    have E6:=hid hb
    clear hb
    refine WE.p 95 (.bool true) ?_
    simp only[pX]
    refine WE.p 96 (.bool true) ?_
    simp only[pX]
    refine WE.p 97 (.pointer (some ⟨w.heap.size,3,none⟩)) ?_
    simp only[pX]
    refine WE.q 98 (str []) rfl (fun w' hk=>by have ce:=hk.cell (E6.out.cell b3);go_simp) ?_
    simp only[pX]
    refine WE.p 99 (.bool true) ?_
    simp only[pX]
    refine WE.p 100 (.bool true) ?_
    simp only[pX]
    refine WE.p 101 (.bool true) ?_
    simp only[pX]
    refine WE.p 102 (.pointer (some ⟨w.heap.size,0,none⟩)) ?_
    simp only[pX]
    refine WE.q 103 (.int .i64 op) rfl (fun w' hk=>by have ce:=hk.cell (E6.out.cell b0);go_simp) ?_
    simp only[pX]
    refine WE.p 104 (.bool true) ?_
    simp only[pX]
    refine WE.p 105 (.bool true) ?_
    simp only[pX]
    refine WE.p 106 (.bool true) ?_
    simp only[pX]
    refine WE.p 107 (.pointer (some ⟨w.heap.size,0,none⟩)) ?_
    simp only[pX]
    refine WE.q 108 (.int .i64 op) rfl (fun w' hk=>by have ce:=hk.cell (E6.out.cell b0);go_simp) ?_
    simp only[pX]
    refine WE.p 109 (.bool true) ?_
    simp only[pX]
    refine WE.p 110 (.bool true) ?_
    simp only[pX]
    refine WE.p 111 (.bool true) ?_
    simp only[pX]
    refine WE.p 112 (.pointer (some ⟨w.heap.size,0,none⟩)) ?_
    simp only[pX]
    refine WE.q 113 (.int .i64 op) rfl (fun w' hk=>by have ce:=hk.cell (E6.out.cell b0);go_simp) ?_
    simp only[pX]
    refine WE.p 114 (.pointer (some ⟨w.heap.size,5,none⟩)) ?_
    simp only[pX]
    refine WE.q 115 (.slice A n c) rfl (fun w' hk=>by have ce:=hk.cell (E6.out.cell b5);go_simp) ?_
    simp only[pX]
    refine WE.p 116 (.int .i64 (n:Int)) ?_
    simp only[pX]
    refine WE.c 117 ((HA.out _ (EW.out.trans E6.out)).mono ?_)
    rintro e w6 ⟨rfl,hb6⟩
    refine⟨_,rfl,hb6,?_⟩
    replace E6:=hid (E6.out.trans hb6)
    clear hb6
    simp only[pX]
    refine WE.p 118 (.bool true) ?_
    simp only[pX]
    refine WE.p 119 (.bool true) ?_
    simp only[pX]
    refine WE.p 120 (.pointer (some ⟨w.heap.size,0,none⟩)) ?_
    simp only[pX]
    refine WE.q 121 (.int .i64 op) rfl (fun w' hk=>by have ce:=hk.cell (E6.out.cell b0);go_simp) ?_
    simp only[pX]
    refine WE.p 122 (.pointer (some ⟨w.heap.size,5,none⟩)) ?_
    simp only[pX]
    refine WE.q 123 (.slice A n c) rfl (fun w' hk=>by have ce:=hk.cell (E6.out.cell b5);go_simp) ?_
    simp only[pX]
    refine WE.c 124 ((HK.out _ (EW.out.trans E6.out)).mono ?_)
    rintro e w6 ⟨rfl,hb6⟩
    refine⟨_,rfl,hb6,?_⟩
    replace E6:=hid (E6.out.trans hb6)
    clear hb6
    simp only[pX]
    refine WE.p 125 (.bool true) ?_
    simp only[pX]
    refine WE.p 126 (.bool true) ?_
    simp only[pX]
    refine WE.p 127 (.bool true) ?_
    simp only[pX]
    refine WE.p 128 (.pointer (some ⟨w.heap.size,4,none⟩)) ?_
    simp only[pX]
    refine WE.q 129 (.int .i64 so) rfl (fun w' hk=>by have ce:=hk.cell (E6.out.cell b4);go_simp) ?_
    simp only[pX]
    refine WE.p 130 (.pointer (some ⟨w.heap.size,0,none⟩)) ?_
    simp only[pX]
    refine WE.q 131 (.int .i64 op) rfl (fun w' hk=>by have ce:=hk.cell (E6.out.cell b0);go_simp) ?_
    simp only[pX]
    refine WE.p 132 (.pointer (some ⟨w.heap.size,5,none⟩)) ?_
    simp only[pX]
    refine WE.q 133 (.slice A n c) rfl (fun w' hk=>by have ce:=hk.cell (E6.out.cell b5);go_simp) ?_
    simp only[pX]
    refine WE.c 134 ((HR.out _ (EW.out.trans E6.out)).mono ?_)
    rintro e w6 ⟨rfl,hb6⟩
    refine⟨_,rfl,hb6,?_⟩
    replace E6:=hid (E6.out.trans hb6)
    clear hb6
    simp only[pX]
    refine WE.p 135 (.bool true) ?_
    simp only[pX]
    refine WE.p 136 (.bool true) ?_
    simp only[pX]
    refine WE.p 2 (.bool true) ?_
    simp only[pX]
    refine WE.done ?_
    go_wp2_with fail
    go_ret
    obtain rfl:true=z:=HZ.out
    exact⟨rfl,((Ext.alloc w _).trans E.out).trans (EW.out.trans E6.out)⟩
theorem rkIs_n (t:M.Tm){v:Value}{w:World}(h:IsTm w t v)(hf:M.kfew t=true): Calls Tryz.prog 22 #[v] w (GivesB w (M.kIs t)):=by
 obtain⟨N,nn,nc,A,n,c,rfl,-,-,-,-,-,-⟩:=h.shape
 obtain⟨op,hop⟩:∃x,t.op=x:=⟨_,rfl⟩
 obtain⟨g,hg⟩:∃x,t.g=x:=⟨_,rfl⟩
 obtain⟨nm,hnm⟩:∃x,t.name=x:=⟨_,rfl⟩
 obtain⟨so,hso⟩:∃x,t.sort=x:=⟨_,rfl⟩
 rw[hop,hg,hnm,hso] at h ⊢
 obtain⟨m,hm⟩:∃m,decide (M.kcnt t≤400)=m:=⟨_,rfl⟩
 obtain⟨q,hq⟩:∃q,M.kis t=q:=⟨_,rfl⟩
 have H:=hid (show ∀w',Ext w w'→Calls Tryz.prog 47 #[kv op g N nn nc nm so A n c] w' (GivesB w' m) from fun w' e=>hm▸rFew_n t (h.up e))
 have HF:=hid (show ∀w',Ext w w'→Calls Tryz.prog 48 #[kv op g N nn nc nm so A n c] w' (GivesB w' q) from fun w' e=>hq▸kis_n t (h.up e) hf)
 have HM:=hid (show M.kIs t=(m&&q) by unfold M.kIs;rw[hq,hm])
 rw[HM.out]
 clear h hop hg hnm hso hm hq HM
 cases m
 ·go_enter Tryz.func22,Tryz.ntmps22
  go_wp2_with fail
  refine(H.out _ (Ext.alloc w _)).mono ?_
  rintro e w' ⟨rfl,hb⟩
  have E:=hid hb
  clear hb
  go_wp2_with fail
  go_ret
  exact⟨rfl,(Ext.alloc w _).trans E.out⟩
 ·go_enter Tryz.func22,Tryz.ntmps22
  go_wp2_with fail
  refine(H.out _ (Ext.alloc w _)).mono ?_
  rintro e w' ⟨rfl,hb⟩
  have E:=hid hb
  obtain⟨⟨b0,b1,b2,b3,b4,b5⟩,hz⟩:=box6 hb
  clear hb
  go_wp2_with fail
  refine(HF.out _ ((Ext.alloc w _).trans E.out)).mono ?_
  rintro e w2 ⟨rfl,hb⟩
  replace E:=hid (E.out.trans hb)
  clear hb
  go_wp2_with fail
  go_ret
  exact⟨rfl,(Ext.alloc w _).trans E.out⟩
end Go.Proofs.YtoenjbkmiphhoaaGreatDoor.Q
