/-
  Layer 13's laws: LiftStays.
-/
import Derived.Test.YtoenjbkmiphhoaaGreatDoorS38
import Derived.Test.YtoenjbkmiphhoaaGreatDoorS49
namespace Go.Proofs.YtoenjbkmiphhoaaGreatDoor.Q
set_option linter.unusedSimpArgs false
set_option linter.unusedVariables false
open Go.RowKit
namespace M
theorem lifted_room {t:Tm}{next:Int}{m:Nat}(h:Room (kcnt t+m) (ls0 next)): Room m (lifted t next).2:=by
 unfold lifted
 split
 ·exact lfT_room t _ m h
 ·exact h.less (by omega)
theorem lifted_few {t:Tm}{next:Int}(h:Room (kcnt t) (ls0 next))(hf:kfew t=true): kfew (lifted t next).1=true:=by
 unfold lifted
 split
 ·exact lfT_few t _ 0 h hf
 ·exact hf
theorem lifted_cnt (t:Tm)(next:Int): kcnt (lifted t next).1≤kcnt t:=by
 unfold lifted
 split
 ·exact lfT_cnt t _
 ·exact Nat.le_refl _
theorem room0 {n:Nat}{next:Int}(h1:-9000000000000000000≤next)(h2:next+n≤9000000000000000000)(hn:n≤400000): Room n (ls0 next):=⟨⟨h1,h2⟩,by show 0+_≤_;omega,by show 0+_≤_;omega⟩
structure StaysOk (t:Tm)(next:Int)(u:Tm)(hl:Nat)(nx:Int): Prop where
 few:kfew u=true
 cnt:kcnt u≤400
 room:Room (kcnt u) (ls0 nx)
 rng:-9000000000000000000≤nx∧nx≤9000000000000000000
 ways:(has1 t=false∧u=t∧hl=0∧nx=next)∨(has1 t=true∧u=t∧nx=next) ∨
  (has1 t=true∧has1 u=false∧u.sort=t.sort∧(hl:Int)=2*(nx-next)∧(lifted u nx).1=u∧(lifted u nx).2.held.length=0∧(lifted u nx).2.next=nx)
theorem stays_ok {t:Tm}{n:Nat}(hk:kIs t=true)(hf:kfew t=true)(hn:n≤255): StaysOk t n (lifted t n).1 (lifted t n).2.held.length (lifted t n).2.next:=by
 have hc:=(kIs_parts hk).1
 have hr:Room (kcnt t+1000) (ls0 (n:Int)):=room0 (by omega) (by omega) (by omega)
 have hr2:=lifted_room hr
 have hu:=lifted_cnt t n
 refine⟨lifted_few (hr.less (by omega)) hf,by omega,room0 hr2.1.1 (by have:=hr2.1.2;omega) (by omega),⟨hr2.1.1,by have:=hr2.1.2;omega⟩,?_⟩
 rcases hq:has1 t with _|_
 ·obtain⟨a,b,c⟩:=lifted_stay (next:=n) hk hq
  exact .inl ⟨rfl,a,by rw[b];rfl,c⟩
 ·rcases lifted_two (next:=n) hk hq with⟨a,b⟩|⟨a,b,c,d⟩
  ·exact .inr (.inl ⟨rfl,a,b⟩)
  ·obtain⟨e1,e2,e3⟩:=lifted_stay (next:=(lifted t n).2.next) b a
   exact .inr (.inr ⟨rfl,a,c,d,e1,by rw[e2];rfl,e3⟩)
end M
set_option maxHeartbeats 40000000 in
set_option maxRecDepth 100000 in
theorem stays_p {t:M.Tm}{n:Nat}{tv:Value}{w:World}(ht:IsTm w t tv)(hn:n≤255)(hT:TabL w): Calls Tryz.prog 7 #[tv,.int .u8 (n:Int)] w (GivesB w true):=by
 obtain⟨N,nn,nc,A,k,c,rfl,-,-,-,-,-,-⟩:=ht.shape
 obtain⟨q1,hq1⟩:∃q,M.pfewT t=q:=⟨_,rfl⟩
 have HFT:=hid (show ∀w',Ext w w'→Calls Tryz.prog 9 #[kv t.op t.g N nn nc t.name t.sort A k c] w' (GivesB w' q1) from fun w' e=>hq1▸fewTermP_n t (ht.up e))
 have HQ1:=hid hq1
 have HRI:=hid (show M.kfew t=true→∀w',Ext w w'→Calls Tryz.prog 22 #[kv t.op t.g N nn nc t.name t.sort A k c] w' (GivesB w' (M.kIs t)) from fun hf w' e=>rkIs_n t (ht.up e) hf)
 have HTM:=hid (show ∀w',Ext w w'→IsTm w' t (kv t.op t.g N nn nc t.name t.sort A k c) from fun w' e=>ht.up e)
 have HTB:=hid (fun w' (e:Ext w w')=>hT.up e)
 have HN:=hid hn
 obtain⟨op,hop⟩:∃x,t.op=x:=⟨_,rfl⟩
 obtain⟨tg,hg⟩:∃x,t.g=x:=⟨_,rfl⟩
 obtain⟨tn,htn⟩:∃x,t.name=x:=⟨_,rfl⟩
 obtain⟨so,hso⟩:∃x,t.sort=x:=⟨_,rfl⟩
 rw[hop,hg,htn,hso] at HFT HRI HTM ⊢
 have HSO:=hid hso
 have hwn:IntKind.i64.wrap (n:Int)=(n:Int):=by rw[IntKind.wrap_i64];omega
 have HWN:=hid hwn
 clear hop hg htn hso ht hT hq1 hn hwn
 go_enter Tryz.func7,Tryz.ntmps7
 go_upto_region 1 with (fail)
 refine vwp_at (fun W=>Box W w.heap.size #[.int .i64 op,.bool tg,.slice N nn nc,str tn,.int .i64 so,.slice A k c] 27∧Ext w W) ⟨Box.new w _ _,Ext.alloc w _⟩ ?_
 intro W ⟨hb0,he⟩
 obtain⟨g0,hg0⟩:∃g,w.heap.size=g:=⟨_,rfl⟩
 rw[hg0] at hb0 ⊢
 have HB0:=hid hb0
 have E:=hid he
 clear hb0 he hg0
 go_wp2_with fail
 refine(pknown_s (HTB.out _ E.out)).mono ?_
 rintro e w1 ⟨rfl,hx⟩
 replace E:=hid (E.out.trans hx)
 replace HB0:=hid (HB0.out.up hx)
 clear hx
 obtain⟨⟨b0,b1,b2,b3,b4,b5⟩,-,-⟩:=boxF6 HB0.out
 go_wp2_with fail
 clear b0 b1 b2 b3 b4 b5
 refine(HFT.out _ E.out).mono ?_
 rintro e w2 ⟨rfl,hx⟩
 replace E:=hid (E.out.trans hx)
 replace HB0:=hid (HB0.out.up hx)
 clear hx HFT
 cases q1
 case false=>
  go_wp2_with fail
  go_ret
  exact⟨rfl,E.out⟩
 have hfw:=HQ1.out
 unfold M.pfewT at hfw
 rw[Bool.and_eq_true] at hfw
 have HCN:=hid (show M.kcnt t≤120 from of_decide_eq_true hfw.1)
 have HKF:=hid (M.pfew_kfew hfw.2)
 clear hfw HQ1
 obtain⟨q2,hq2⟩:∃q,M.kIs t=q:=⟨_,rfl⟩
 have HRC:=hid (HRI.out HKF.out)
 rw[hq2] at HRC
 have HQ2:=hid hq2
 clear hq2 HRI
 obtain⟨⟨b0,b1,b2,b3,b4,b5⟩,-,-⟩:=boxF6 HB0.out
 go_wp2_with fail
 clear b0 b1 b2 b3 b4 b5
 refine(HRC.out _ E.out).mono ?_
 rintro e w5 ⟨rfl,hx⟩
 replace E:=hid (E.out.trans hx)
 replace HB0:=hid (HB0.out.up hx)
 clear hx HRC
 cases q2
 case false=>
  go_wp2_with fail
  go_ret
  exact⟨rfl,E.out⟩
 have HSY:=hid (M.stays_ok (n:=n) HQ2.out HKF.out HN.out)
 have HDO:=hid (show ∀w',Ext w w'→Calls Tryz.prog 12 #[kv op tg N nn nc tn so A k c,.int .i64 (n:Int)] w' (GivesDo w' (M.lifted t n)) from fun w' e=>do_l (HTM.out _ e) HKF.out (by have:=HCN.out;omega) (HTB.out _ e) (M.room0 (by omega) (by have:=HCN.out;have:=HN.out;omega) (by have:=HCN.out;omega)))
 obtain⟨r,hr⟩:∃r,M.lifted t n=r:=⟨_,rfl⟩
 obtain⟨u,st⟩:=r
 rw[hr] at HDO HSY
 replace HSY:Hid (M.StaysOk t n u st.held.length st.next):=HSY
 clear hr HQ2
 have hwn:=HWN.out
 obtain⟨⟨b0,b1,b2,b3,b4,b5⟩,-,-⟩:=boxF6 HB0.out
 go_wp2_with fail
 clear b0 b1 b2 b3 b4 b5 hwn
 refine(HDO.out _ E.out).mono ?_
 rintro e w6 ⟨uv,hv,rfl,hu,hh,hx⟩
 replace hu:IsTm w6 u uv:=hu
 replace hh:Tms w6 st.held hv:=hh
 obtain⟨x1,x2,xN,xn,xm,x3,x4,xA,x5,xd,rfl⟩:=hu.kvs
 obtain⟨hA,hc,rfl⟩:=hh.shape
 have hsu:x4=u.sort:=by obtain⟨N',nn',nc',A',c',e,-,-⟩:=hu;simp only[kv,Value.agg.injEq,Array.mk.injEq,List.cons.injEq,Value.int.injEq,true_and,and_true] at e;exact e.2.2.2.2.1
 have HU:=hid hu
 replace E:=hid (E.out.trans hx)
 replace HB0:=hid (HB0.out.up hx)
 obtain⟨hl,hhl⟩:∃x,st.held.length=x:=⟨_,rfl⟩
 have hlle:=hh.le.2
 rw[hhl] at hh HSY hlle ⊢
 obtain⟨nx,hnx⟩:∃x,st.next=x:=⟨_,rfl⟩
 rw[show (u,st).2.next=nx from hnx]
 rw[hnx] at HSY
 have HLL:=hid hlle
 have HSU:=hid hsu
 clear hu hh hx HDO hhl hnx hlle hsu
 go_upto_region 6 with (fail)
 refine vwp_at (fun W'=>Box W' w6.heap.size #[.int .i64 x1,.bool x2,.slice xN xn xm,str x3,.int .i64 x4,.slice xA x5 xd] 27∧Ext w6 W') ⟨Box.new w6 _ _,Ext.alloc _ _⟩ ?_
 intro W5 ⟨hb5,he⟩
 obtain⟨g5,hg5⟩:∃g,w6.heap.size=g:=⟨_,rfl⟩
 rw[hg5] at hb5 ⊢
 have HB5:=hid hb5
 replace HU:=hid (HU.out.up he)
 replace HB0:=hid (HB0.out.up he)
 replace E:=hid (E.out.trans he)
 clear hb5 he hg5
 obtain⟨⟨b0,b1,b2,b3,b4,b5⟩,-,-⟩:=boxF6 HB0.out
 go_wp2_with fail
 clear b0 b1 b2 b3 b4 b5
 refine(pure_n (HTM.out _ E.out)).mono ?_
 rintro e w7 ⟨rfl,hx⟩
 replace HU:=hid (HU.out.up hx)
 replace HB0:=hid (HB0.out.up hx)
 replace HB5:=hid (HB5.out.up hx)
 replace E:=hid (E.out.trans hx)
 clear hx
 obtain⟨z,hz⟩:∃z,M.has1 t=z:=⟨_,rfl⟩
 have hways:=HSY.out.ways
 rw[hz] at hways ⊢
 cases z
 case false=>
  obtain⟨hut,rfl,rfl⟩:u=t∧hl=0∧nx=n:=by
   rcases hways with⟨-,a,b,c⟩|⟨h,-⟩|⟨h,-⟩
   ·exact⟨a,b,c⟩
   ·cases h
   ·cases h
  rw[hut] at HU
  clear hways hz hut HSY HSU
  obtain⟨⟨b0,b1,b2,b3,b4,b5⟩,-,-⟩:=boxF6 HB0.out
  obtain⟨⟨d0,d1,d2,d3,d4,d5⟩,-,-⟩:=boxF6 HB5.out
  rw[Bool.not_false]
  go_wp2_with fail
  clear b0 b1 b2 b3 b4 b5 d0 d1 d2 d3 d4 d5
  refine(rkSame_t HU.out (HTM.out _ E.out)).mono ?_
  rintro e w8 ⟨rfl,hx⟩
  replace E:=hid (E.out.trans hx)
  clear hx
  have hwn:=HWN.out
  go_wp2_with fail
  go_ret
  exact⟨rfl,E.out⟩
 rw[Bool.not_true]
 obtain⟨⟨d0,d1,d2,d3,d4,d5⟩,-,-⟩:=boxF6 HB5.out
 go_wp2_with fail
 clear d0 d1 d2 d3 d4 d5
 refine(do_l HU.out HSY.out.few (by have:=HSY.out.cnt;omega) (HTB.out _ E.out) HSY.out.room).mono ?_
 rintro e w8 ⟨yv,kv8,rfl,hv8,hk8,hx⟩
 obtain⟨r8,hr8⟩:∃r,M.lifted u nx=r:=⟨_,rfl⟩
 rw[hr8] at hv8 hk8 hways ⊢
 obtain⟨y1,y2,yN,yn,ym,y3,y4,yA,y5,yd,rfl⟩:=hv8.kvs
 obtain⟨kA,kc,rfl⟩:=hk8.shape
 have HV8:=hid hv8
 replace HU:=hid (HU.out.up hx)
 replace HB0:=hid (HB0.out.up hx)
 replace HB5:=hid (HB5.out.up hx)
 replace E:=hid (E.out.trans hx)
 obtain⟨kl,hkl⟩:∃x,r8.2.held.length=x:=⟨_,rfl⟩
 obtain⟨ny,hny⟩:∃x,r8.2.next=x:=⟨_,rfl⟩
 have hkle:=hk8.le.2
 rw[hkl,hny] at hways ⊢
 rw[hkl] at hkle
 have HKL:=hid hkle
 clear hv8 hk8 hx hkl hny hkle
 go_upto_region 9 with (fail)
 refine vwp_at (fun W'=>Box W' w8.heap.size #[.int .i64 y1,.bool y2,.slice yN yn ym,str y3,.int .i64 y4,.slice yA y5 yd] 27∧Ext w8 W') ⟨Box.new w8 _ _,Ext.alloc _ _⟩ ?_
 intro W8 ⟨hb8,he⟩
 obtain⟨g8,hg8⟩:∃g,w8.heap.size=g:=⟨_,rfl⟩
 rw[hg8] at hb8 ⊢
 have HB8:=hid hb8
 replace HU:=hid (HU.out.up he)
 replace HV8:=hid (HV8.out.up he)
 replace HB0:=hid (HB0.out.up he)
 replace HB5:=hid (HB5.out.up he)
 replace E:=hid (E.out.trans he)
 clear hb8 he hg8
 have hso:x4=so:=by
  rw[HSU.out,←HSO.out]
  rcases hways with⟨h,-⟩|⟨-,a,-⟩|⟨-,-,a,-⟩
  ·cases h
  ·rw[a]
  ·exact a
 subst hso
 have hrng:=HSY.out.rng
 rcases hways with⟨h,-⟩|⟨-,a,b⟩|⟨-,a,-,b,c,d,f⟩
 ·cases h
 ·subst b
  have hp:=pure_n HU.out
  rw[show M.has1 u=true by rw[a];exact hz] at hp
  have HP:=hid hp
  clear hp a hz HSY HSU hrng
  obtain⟨⟨b0,b1,b2,b3,b4,b5⟩,-,-⟩:=boxF6 HB0.out
  obtain⟨⟨d0,d1,d2,d3,d4,d5⟩,-,-⟩:=boxF6 HB5.out
  go_wp2_with fail
  clear b0 b1 b2 b3 b4 b5 d0 d1 d2 d3 d4 d5
  refine HP.out.mono ?_
  rintro e w9 ⟨rfl,hx⟩
  replace E:=hid (E.out.trans hx)
  clear hx HP
  have hwn:=HWN.out
  go_wp2_with fail
  go_ret
  exact⟨rfl,E.out⟩
 ·have hp:=pure_n HU.out
  rw[a] at hp
  have HP:=hid hp
  rw[c] at HV8
  obtain rfl:kl=0:=d
  obtain rfl:ny=nx:=f
  obtain⟨dd,hdd⟩:∃dd,ny-(n:Int)=dd:=⟨_,rfl⟩
  have hn255:=HN.out
  have HA:=hid (show ny-(n:Int)=dd∧IntKind.i64.wrap dd=dd∧2*dd=(hl:Int)∧IntKind.i64.wrap (hl:Int)=(hl:Int) from⟨hdd,by rw[IntKind.wrap_i64];omega,by omega,by have:=HLL.out;rw[IntKind.wrap_i64];omega⟩)
  clear hp a b c hz HSY HSU hrng hdd hn255
  obtain⟨⟨b0,b1,b2,b3,b4,b5⟩,-,-⟩:=boxF6 HB0.out
  obtain⟨⟨d0,d1,d2,d3,d4,d5⟩,-,-⟩:=boxF6 HB5.out
  go_wp2_with fail
  clear b0 b1 b2 b3 b4 b5 d0 d1 d2 d3 d4 d5
  refine HP.out.mono ?_
  rintro e w9 ⟨rfl,hx⟩
  replace HU:=hid (HU.out.up hx)
  replace HV8:=hid (HV8.out.up hx)
  replace HB5:=hid (HB5.out.up hx)
  replace HB8:=hid (HB8.out.up hx)
  replace E:=hid (E.out.trans hx)
  clear hx HP
  obtain⟨⟨b0,b1,b2,b3,b4,b5⟩,-,-⟩:=boxF6 HB5.out
  obtain⟨⟨d0,d1,d2,d3,d4,d5⟩,-,-⟩:=boxF6 HB8.out
  have hwn:=HWN.out
  go_wp2_with fail
  clear b0 b1 b2 b3 b4 b5 d0 d1 d2 d3 d4 d5
  refine(rkSame_t HV8.out HU.out).mono ?_
  rintro e w10 ⟨rfl,hx⟩
  replace E:=hid (E.out.trans hx)
  clear hx
  obtain⟨ha1,ha2,ha3,ha4⟩:=HA.out
  go_wp2_with fail
  go_ret
  exact⟨rfl,E.out⟩
open Go.ChangeShapes Go.WideShapes Go.ChangeAt Go.RowKit
set_option linter.unusedSimpArgs false
set_option linter.unusedVariables false
theorem stays_i {t:M.Tm}{v:Value}{a:Int}{w:World}(ht:IsTm w t v)(ha:(Lit.int .u8 a).wf=true)(hT:TabL w): Calls Tryz.prog 7 #[v,.int .u8 a] w (GivesB w true):=by
 have h1:0≤a∧a≤255:=by simpa [Lit.wf,IntKind.min,IntKind.max,IntKind.signed,IntKind.bits] using ha
 obtain⟨n,rfl⟩:∃n:Nat,a=(n:Int):=⟨a.toNat,by omega⟩
 exact stays_p ht (by omega) hT
set_option maxRecDepth 100000 in
theorem liftStays_lifted (os:Os)(started:os.Started)(H:Type)(enc:TypeId×Value→H):
 ReturnsInHanded {} Tryz.checked os 7 .any (fun w args=>(Rows.liftStaysSpec.pre enc Tryz.prog Tryz.f7 [] false w args∧laidMetH Tryz.prog laid4 w)∧sizedMet enc Tryz.prog Tryz.f7 (OpenSpec.ofChange Rows.liftStaysSpec) false w args)
  (Rows.liftStaysSpec.post enc Tryz.prog Tryz.f7 false true false false):=by
 refine returnsInHanded_of_change_and (C:=Tryz.checked) (X:=fun w _=>laidMetH Tryz.prog laid4 w) (fun _ _ _ hh h=>h.of_heap hh) own started (by kernel_rfl) Tryz.func7
  (ChangeSpec.witness_shaped (enc:=enc) (C:=Tryz.checked) (os:=os) (X:=fun w _=>laidMetH Tryz.prog laid4 w) false (World.doorLaid Tryz.prog 400 os) #[.agg #[.int .i64 0,.bool false,.slice none 0 0,.string ⟨#[]⟩,.int .i64 0,.slice none 0 0],.int .u8 0] 8 rfl (World.shaped_of_RefB (by kernel_rfl) (by kernel_rfl)) (by kernel_rfl) (by kernel_rfl) (by kernel_rfl) (door_met os _)) ?_
 intro W base args ds gs before hval0 hW _ _ hL _
 have hval:∀(j:Nat) t v,Tryz.f7.params[j]?=some t→args[j]?=some v→Value.okWide Tryz.prog W .any base t v:=hval0
 have hW':=hW
 obtain⟨p,q,hA0,hV,rfl,hfz,hnd⟩:=hW
 have hA:DataW.TrodAll enc Tryz.prog W 0 (fun _=>true) true Tryz.f7.params.toList args.toList ds p:=hA0
 rw[Tryz.params7] at hA hval
 obtain⟨v0,vs0,d0,ds0,p0,q0,hargs,rfl,rfl,h0,r0⟩:=trodAll_cons hA
 obtain⟨v1,vs1,d1,ds1,p1,q1,rfl,rfl,rfl,h1,r1⟩:=trodAll_cons r0
 obtain⟨rfl,rfl,rfl⟩:=trodAll_nil r1
 obtain rfl:args=#[v0,v1]:=by cases args;simp_all
 obtain⟨rfl,rfl⟩:=trodVars_none hV
 obtain⟨t0,e0⟩:=open_Term (hval 0 27 _ rfl rfl) h0
 obtain⟨a1,rfl,-,-,w1⟩:=open_int Tryz.underlying5 (hval 1 5 v1 rfl rfl) h1
 have hT:=tab_of_laid hL
 clear hA0 hval0 hL
 refine(stays_i e0 w1 hT).mono fun e W' ⟨he,hg⟩=>?_
 subst he
 exact⟨_,rfl,law_post hW' rfl rfl (by kernel_rfl) (by kernel_rfl) hg⟩
set_option maxHeartbeats 8000000 in
theorem liftStays_over:Rows.LiftStaysSaid:=by
 refine OpenClaim.holds_of_wide 7 Tryz.f7 rfl rfl rfl rfl rfl rfl rfl ⟨rfl,rfl,rfl,rfl,rfl⟩ rfl rfl rfl rfl rfl (by as_aux_lemma=>kernel_rfl) Tryz.func7 ?_
  (of_decide_eq_true (by as_aux_lemma=>kernel_rfl)) (by unfold Func.isWrapper;first|(rw[if_pos (by decide +kernel)];kernel_rfl)|(rw[if_neg (by decide +kernel)];exact⟨rfl,rfl⟩))
  (fun os started H enc _=>liftStays_lifted os started H enc)
 unfold joinedFacts
 simp only[Bool.and_eq_true]
 repeat' apply And.intro
 all_goals (as_aux_lemma=>kernel_rfl)
theorem liftStays_named:Tryz.prog.funcNamed "mullion/mullionlaw13.LiftStays"=some 7:=by kernel_rfl
theorem liftStays_all:([27,5].all fun u=>!Tryz.prog.wantsStandIn u)=true:=by kernel_rfl
set_option maxHeartbeats 8000000 in
theorem liftStays_card:Rows.LiftStaysCardSaid:=
 Claim7.holds_tied_plain_at .later [] [.data,.data,.data,.wider] true Rows.liftStaysCard.stood.harness false
  liftStays_over (fun _ h=>by cases h) (by as_aux_lemma=>kernel_rfl) (fun _ h=>by cases h) liftStays_row_tie rfl ⟨rfl,rfl⟩ (by as_aux_lemma=>kernel_rfl) rfl
  (fun f fn hf hfn=>by
   obtain rfl:f=7:=Option.some.inj (liftStays_named.symm.trans hf) |>.symm
   obtain rfl:fn=Tryz.f7:=(Option.some.inj (Tryz.func7.symm.trans hfn)).symm
   exact⟨by as_aux_lemma=>kernel_rfl,fun j t ht=>by
    rw[Tryz.params7] at ht
    have hm:t∈[27,5]:=by simpa using Array.mem_of_getElem? ht
    exact(show Tryz.prog.wantsStandIn t=false by simpa using List.all_eq_true.1 liftStays_all t hm)⟩)
  (by as_aux_lemma=>kernel_rfl)
end Go.Proofs.YtoenjbkmiphhoaaGreatDoor.Q
