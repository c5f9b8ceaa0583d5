/-
  Layers 13 to 15, the reference: Fresh.
-/
import Derived.Test.YtoenjbkmiphhoaaGreatDoorA33
import Derived.Test.YtoenjbkmiphhoaaGreatDoorA10
import Derived.Lib.ItoaLen
namespace Go.Proofs.YtoenjbkmiphhoaaGreatDoor.Q
set_option linter.unusedSimpArgs false
set_option linter.unusedVariables false
open Go.RowKit
theorem cat_bang (l:List UInt8): (⟨#[33]⟩:ByteArray)++⟨l.toArray⟩=⟨(33::l).toArray⟩:=by apply ByteArray.ext;simp
set_option linter.unusedSimpArgs false
set_option linter.unusedVariables false
open Go.RowKit
set_option maxHeartbeats 8000000 in
theorem lFresh_n {n s:Int}(h2:n≤9223372036854775807)(w:World)(ht:Go.Proofs.YtoenjbkmiphhoaaGreatDoor.Tab w): Calls Tryz.prog 16 #[.int .i64 n,.int .i64 s] w (GivesT1 w (M.frT n s)):=by
 obtain⟨N,hN⟩:∃N,max n (0:Int)=N:=⟨_,rfl⟩;have HN:=hid (show 0≤N∧N≤9223372036854775807 by omega);obtain⟨l,hl⟩:∃l,Go.Lib.decDigits N.toNat=l:=⟨_,rfl⟩;have HP:=hid (show Go.Proofs.YtoenjbkmiphhoaaGreatDoor.M.print N=l by
  unfold Go.Proofs.YtoenjbkmiphhoaaGreatDoor.M.print;rw[if_neg (by have:=HN.out;omega),←hl];congr 1;have:=HN.out;omega)
 have HF:=hid (show M.frT n s=.mk 4 false [] (33::l) s [] by unfold M.frT M.frName;rw[Int.max_comm,hN,hl]);have hlen:¬(9223372036854775807<l.length+1):=by
  have h3:=Go.Lib.decDigits_length N.toNat;rw[hl] at h3;have h4:=Go.Lib.nDigits_le20 N.toNat (by have:=HN.out;omega);omega
 have hcat:=cat_bang l;obtain⟨s2,hs2⟩:∃q,(⟨(33::l).toArray⟩:ByteArray)=q:=⟨_,rfl⟩;rw[hs2] at hcat;have HS:=hid hs2;have HT:=hid ht;clear hl hs2 ht;go_enter Tryz.func16,Tryz.ntmps16
 go_wp2_with fail
 refine(of_z (n:=N) (by have:=HN.out;omega) (by have:=HN.out;omega) _).mono ?_;rintro e w1 ⟨v1,rfl,hv1,hx⟩;have E:=hid hx;have HV:=hid (show Worth w1 v1 N 3 from hv1.worth);obtain⟨A1,n1,c1,rfl,-,-⟩:=hv1;clear hx hN;go_wp2_with fail
 refine(print_w HV.out (by decide) (Go.Proofs.YtoenjbkmiphhoaaGreatDoor.Tab.up HT.out ((Ext.alloc w _).trans E.out))).mono ?_;rintro e w2 ⟨rfl,hx⟩;rw[HP.out];have hb2:=(Box.new w zero6 27).up (E.out.trans hx);have E2:=hid ((Ext.alloc w (.cells zero6 27)).trans (E.out.trans hx));obtain⟨⟨r0,r1,r2,r3,r4,r5⟩,⟨q0,q1,q2,q3,q4,q5⟩,hz⟩:=boxF6 hb2;clear hx hb2 HV E;go_wp2_with fail
 refine bodyPost_ret (v:=.agg #[.int .i64 4,.bool false,.slice none 0 0,.string s2,.int .i64 s,.slice none 0 0]) (by simp[results,Tryz.results16,go_sem,r0,r1,r2,r3,r4,r5,hz]) rfl ?_;rw[HF.out];exact⟨_,rfl,⟨none,0,0,none,0,by rw[←HS.out];rfl,LNum.nil _,Tms.nil _⟩,put6_ext E2.out (Nat.le_refl _)⟩
set_option maxHeartbeats 2000000 in
theorem choice_n {op:Int}{g:Bool}{N A:Option Addr}{nn nc n c:Nat}{nm:List UInt8}{so:Int}(w:World): Calls Tryz.prog 74 #[kv op g N nn nc nm so A n c] w (GivesB w (decide (op=12)&&decide (so=2))):=by
 obtain⟨⟨b0,b1,b2,b3,b4,b5⟩,hsz⟩:=box6 (Ext.refl (kboxed w op g N nn nc nm so A n c))
 by_cases h12:op=12
 ·subst h12
  by_cases hs:so=2
  ·subst hs;go_enter Tryz.func74,Tryz.ntmps74
   go_wp2;go_ret;exact⟨rfl,Ext.alloc w _⟩
  ·have r2:(so==2)=false:=by simpa using hs
   have HS:=hid (show (decide ((12:Int)=12)&&decide (so=2))=false by rw[decide_eq_false hs];rfl);rw[HS.out];clear hs;go_enter Tryz.func74,Tryz.ntmps74
   go_wp2;go_ret;exact⟨rfl,Ext.alloc w _⟩
 ·have r1:(op==12)=false:=by simpa using h12
  have HS:=hid (show (decide (op=12)&&decide (so=2))=false by rw[decide_eq_false h12];rfl);rw[HS.out];clear h12;go_enter Tryz.func74,Tryz.ntmps74
  go_wp2;go_ret;exact⟨rfl,Ext.alloc w _⟩
end Go.Proofs.YtoenjbkmiphhoaaGreatDoor.Q
