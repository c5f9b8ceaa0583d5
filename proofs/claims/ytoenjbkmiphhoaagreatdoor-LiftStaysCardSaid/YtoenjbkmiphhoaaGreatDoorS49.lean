/-
  Layer 13's laws: known, by whatever contract of Over.
-/
import Derived.Test.YtoenjbkmiphhoaaGreatDoorS39
import Derived.Test.YtoenjbkmiphhoaaGreatDoorS46
import Derived.Test.YtoenjbkmiphhoaaGreatDoorS48
import Derived.Test.YtoenjbkmiphhoaaGreatDoorS13
namespace Go.Proofs.YtoenjbkmiphhoaaGreatDoor.Q
set_option linter.unusedSimpArgs false
set_option linter.unusedVariables false
open Go.RowKit
theorem field_sort (op:Int)(g:Bool)(N:Option Addr)(nn nc:Nat)(nm:List UInt8)(so:Int)(A:Option Addr)(n c:Nat)(w:World): (Instr.field 27 (kv op g N nn nc nm so A n c) 3).run Tryz.prog w=.ok (.int .i64 so) w:=by kernel_rfl
theorem M.fr4:M.frT 4 2=.mk 4 false [] [33,52] 2 []:=by kernel_rfl
theorem M.P_wd:(∀f∈M.mP,M.funWd f)∧∀f∈M.mP,M.fnWd 40 f:=by
 have e:M.mP=[M.constF [120] (M.vz 2 (-3))]:=by kernel_rfl
 rw[e]
 refine⟨fun f hf=>?_,fun f hf=>?_⟩<;>(rw[List.mem_singleton] at hf;subst hf)
 ·exact M.constF_wd (by decide) (by decide +kernel)
 ·exact⟨by decide +kernel,fun r hr=>by cases hr⟩
set_option maxHeartbeats 16000000 in
set_option maxRecDepth 20000 in
theorem pknown_g {w:World}(hT:TabL w)(hov:∀w' u mv,Ext w w'→IsTm w' M.aP u→StrIn w' M.mP mv→Calls Tryz.prog 21 #[u,mv,.int .i64 4] w' (GivesOv w' (M.overM (M.mRead M.mP) (M.lifted M.aP 4).2.cons))): Calls Tryz.prog 8 #[] w (GivesB w true):=by
 have HT:=hid (fun w' (e:Ext w w')=>hT.up e)
 have HOV:=hid hov
 clear hT hov
 go_enter Tryz.func8,Tryz.ntmps8
 go_upto_region 3 with (fail)
 refine vwp_at (fun W'=>∃g1 g2,IsTm W' M.aP (kv 18 false none 0 0 [] 2 (some ⟨g1,0,none⟩) 1 1)∧Box W' g2 #[.int .i64 18,.bool false,.slice none 0 0,str [],.int .i64 2,.slice (some ⟨g1,0,none⟩) 1 1] 27∧Ext w W'∧g1=w.heap.size+1∧g2=w.heap.size+1+1) ⟨_,_,?i1,?b1,?e1,rfl,rfl⟩ ?_
 case i1=>exact⟨none,0,0,_,1,rfl,LNum.nil _,(tms_one (t:=M.xP) ⟨none,0,0,none,0,rfl,LNum.nil _,Tms.nil _⟩ (Box.at_ (w:=w.alloc _) #[.int .i64 4,.bool false,.slice none 0 0,str [120],.int .i64 2,.slice none 0 0] 27 (by simp))).up (Ext.alloc _ _)⟩
 case b1=>exact Box.at_ (w:=(w.alloc _).alloc _) _ _ (by simp)
 case e1=>exact((Ext.alloc w _).trans (Ext.alloc _ _)).trans (Ext.alloc _ _)
 intro W ⟨g1,g2,hi,hb,he,hg1,hg2⟩
 rw[←hg2]
 have HI:=hid hi
 have HB:=hid hb
 have E:=hid he
 obtain⟨⟨b0,b1,b2,b3,b4,b5⟩,-,-⟩:=boxF6 hb
 clear hi hb he hg1 hg2
 go_wp2_with fail
 have hrm:M.Room (M.kcnt M.aP) (M.ls0 4):=by rw[M.cnt_A];exact⟨⟨by decide,by decide⟩,by decide,by decide⟩
 have HRM:=hid hrm
 refine(do_l HI.out M.few_A (by rw[M.cnt_A];decide) (HT.out _ E.out) hrm).mono ?_
 rintro e w2 ⟨u,hv,rfl,hu,hh,hx⟩
 rw[M.lifted_P,M.fr4] at hu
 rw[M.next_P]
 have HU:=hid hu
 obtain⟨N,nn,nc,A,c,rfl,-,-⟩:=hu
 obtain⟨hA,hc,rfl⟩:=hh.shape
 rw[M.held_P]
 replace HI:=hid (HI.out.up hx)
 replace HB:=hid (HB.out.up hx)
 replace E:=hid (E.out.trans hx)
 simp only[show (M.Tm.mk 4 false [] [33,52] 2 []).op=4 from rfl,show (M.Tm.mk 4 false [] [33,52] 2 []).g=false from rfl,show (M.Tm.mk 4 false [] [33,52] 2 []).name=[33,52] from rfl,show (M.Tm.mk 4 false [] [33,52] 2 []).sort=2 from rfl,show (M.Tm.mk 4 false [] [33,52] 2 []).kids.length=0 from rfl] at HU ⊢
 clear hh hx b0 b1 b2 b3 b4 b5 hrm
 go_upto_region 4 with (fail)
 refine vwp_at (fun W'=>Box W' w2.heap.size #[.int .i64 4,.bool false,.slice N nn nc,str [33,52],.int .i64 2,.slice A 0 c] 27∧Ext w2 W') ⟨Box.new w2 _ _,Ext.alloc _ _⟩ ?_
 intro W4 ⟨hb3,he⟩
 obtain⟨g3,hg3⟩:∃g,w2.heap.size=g:=⟨_,rfl⟩
 rw[hg3] at hb3 ⊢
 have HB3:=hid hb3
 replace HI:=hid (HI.out.up he)
 replace HU:=hid (HU.out.up he)
 replace HB:=hid (HB.out.up he)
 replace E:=hid (E.out.trans he)
 clear hb3 he hg3
 refine wp_region_D [(0,0),(1,1),(2,0),(3,1),(4,1),(5,0)] fun wd hb=>?_
 replace HI:=hid (HI.out.up hb)
 replace HU:=hid (HU.out.up hb)
 replace HB:=hid (HB.out.up hb)
 replace HB3:=hid (HB3.out.up hb)
 replace E:=hid (E.out.trans hb)
 clear hb
 refine WE.q 17 (kv 18 false none 0 0 [] 2 (some ⟨g1,0,none⟩) 1 1) rfl (fun w' hk=>by obtain⟨⟨c0,c1,c2,c3,c4,c5⟩,-,-⟩:=boxF6 (HB.out.up hk);go_simp) ?_
 simp only[pX]
 refine WE.c 18 ((rOf_z (n:=-3) (by decide) (by decide) _).mono ?_)
 rintro e w5 ⟨v3,rfl,hv3,hx⟩
 refine⟨_,rfl,hx,?_⟩
 obtain⟨A3,n3,c3,rfl,hn3,-⟩:=hv3
 obtain⟨bz,hbz⟩:∃b,decide ((-3:Int)<0)=b:=⟨_,rfl⟩
 rw[hbz]
 have HV:=hid (show IsVl w5 (M.vz 2 (-3)) (vv 2 bz A3 n3 c3) from isVl_num hbz hn3)
 replace HI:=hid (HI.out.up hx)
 replace HU:=hid (HU.out.up hx)
 replace HB:=hid (HB.out.up hx)
 replace HB3:=hid (HB3.out.up hx)
 replace E:=hid (E.out.trans hx)
 clear hn3 hx hbz
 simp only[pX]
 refine WE.p 19 (vv 2 bz A3 n3 c3) ?_
 simp only[pX]
 refine WE.c 20 ((xPut_n (l:=[]) (nm:=[120]) (x:=M.vz 2 (-3)) (FnList.nil _) HV.out (fun g hg=>by cases hg) (by decide) (by decide)).mono ?_)
 rintro e w6 ⟨u6,rfl,hu6,hx⟩
 refine⟨_,rfl,hx,?_⟩
 have HP:=hid (show StrIn w6 M.mP u6 from⟨hu6,by decide +kernel,M.P_wd.1,M.P_wd.2⟩)
 obtain⟨A6,c6,rfl⟩:=hu6.shape
 replace HI:=hid (HI.out.up hx)
 replace HU:=hid (HU.out.up hx)
 replace HB:=hid (HB.out.up hx)
 replace HB3:=hid (HB3.out.up hx)
 replace E:=hid (E.out.trans hx)
 clear hu6 hx HV
 simp only[pX]
 refine WE.c 21 ((HOV.out _ _ _ E.out HI.out HP.out).mono ?_)
 rintro e w7 ⟨u7,rfl,hu7,hx,-⟩
 refine⟨_,rfl,hx,?_⟩
 have HL7:=hid hu7.list
 obtain⟨A7,c7,rfl⟩:=hu7.list.shape
 rw[M.over_len] at HL7 ⊢
 replace HI:=hid (HI.out.up hx)
 replace HU:=hid (HU.out.up hx)
 replace HB:=hid (HB.out.up hx)
 replace HB3:=hid (HB3.out.up hx)
 replace E:=hid (E.out.trans hx)
 clear hu7 hx HP
 simp only[pX]
 refine WE.p 6 (.slice A7 2 c7) ?_
 simp only[pX]
 refine WE.done ?_
 obtain⟨f7,hf7,he7⟩:∃f,(M.overM (M.mRead M.mP) (M.lifted M.aP 4).2.cons)[0]?=some f∧f.els=M.vz 2 3:=by have h:=M.over_els;rcases hq:(M.overM (M.mRead M.mP) (M.lifted M.aP 4).2.cons)[0]? with _|f<;>rw[hq] at h<;>simp at h;exact⟨f,rfl,h⟩
 obtain⟨ad,A1,n1,c1,B1,m1,d1,N1,nn1,nc1,rfl,⟨-,-,-,k5,k6⟩,-,-,hn7⟩:=HL7.out.get hf7
 rw[he7] at k5 hn7
 rw[show (M.vz 2 3).2.1=false from by decide] at k5
 rw[Nat.zero_mul,Addr.add_zero'] at k5 k6
 have HK5:=hid k5
 have HK6:=hid k6
 have HN7:=hid (show LNum w7 (.slice N1 nn1 nc1) (M.limbs 3) from hn7)
 clear hf7 he7 k5 k6 hn7 HL7
 go_upto_region 5 with (fail)
 refine wp_region_D [(0,0),(1,0),(2,0),(3,0),(4,0),(5,0),(6,0),(7,0),(8,0),(9,0),(10,0),(11,0),(12,0),(13,0),(14,1),(15,0),(16,0),(17,0),(18,1),(19,0),(20,0),(21,0),(22,0),(23,0),(24,0),(25,0),(26,0),(27,0),(28,0),(29,0),(30,0),(31,0),(32,1),(33,1),(34,0),(35,0),(36,1),(37,0),(38,0),(39,0),(40,0)] fun wd2 hb=>?_
 replace HI:=hid (HI.out.up hb)
 replace HU:=hid (HU.out.up hb)
 replace HB:=hid (HB.out.up hb)
 replace HB3:=hid (HB3.out.up hb)
 replace E:=hid (E.out.trans hb)
 replace HK5:=hid (hb.cell HK5.out)
 replace HK6:=hid (hb.cell HK6.out)
 replace HN7:=hid (HN7.out.up hb)
 clear hb
 refine WE.p 22 (.pointer (some ⟨g3,3,none⟩)) ?_
 simp only[pX]
 refine WE.q 23 (str [33,52]) rfl (fun w' hk=>by have ce:=(HB3.out.up hk).k 3;go_simp) ?_
 simp only[pX]
 refine WE.p 24 (.bool true) ?_
 simp only[pX]
 refine WE.p 25 (.bool true) ?_
 simp only[pX]
 refine WE.p 26 (.slice hA 2 hc) ?_
 simp only[pX]
 refine WE.p 27 (.int .i64 2) ?_
 simp only[pX]
 refine WE.p 28 (.bool true) ?_
 simp only[pX]
 refine WE.p 29 (.bool true) ?_
 simp only[pX]
 refine WE.p 30 (.bool true) ?_
 simp only[pX]
 refine WE.p 31 (.int .i64 5) ?_
 simp only[pX]
 refine WE.p 32 (.bool true) ?_
 simp only[pX]
 refine WE.p 33 (.bool true) ?_
 simp only[pX]
 refine WE.p 34 (.bool true) ?_
 simp only[pX]
 refine WE.q 35 (kv 4 false N nn nc [33,52] 2 A 0 c) rfl (fun w' hk=>by obtain⟨⟨c0,c1,c2,c3,c4,c5⟩,-,-⟩:=boxF6 (HB3.out.up hk);go_simp) ?_
 simp only[pX]
 refine WE.c 36 ((pure_n HU.out).mono ?_)
 rintro e wn ⟨rfl,hx⟩
 refine⟨_,rfl,hx,?_⟩
 replace HI:=hid (HI.out.up hx)
 replace HU:=hid (HU.out.up hx)
 replace HB:=hid (HB.out.up hx)
 replace HB3:=hid (HB3.out.up hx)
 replace E:=hid (E.out.trans hx)
 replace HK5:=hid (hx.cell HK5.out)
 replace HK6:=hid (hx.cell HK6.out)
 replace HN7:=hid (HN7.out.up hx)
 clear hx
 simp only[pX]
 rw[show M.has1 (.mk 4 false [] [33,52] 2 [])=false from by rw[←M.fr4];exact M.has_P]
 refine WE.p 37 (.bool true) ?_
 simp only[pX]
 refine WE.p 38 (.bool true) ?_
 simp only[pX]
 refine WE.q 39 (kv 18 false none 0 0 [] 2 (some ⟨g1,0,none⟩) 1 1) rfl (fun w' hk=>by obtain⟨⟨c0,c1,c2,c3,c4,c5⟩,-,-⟩:=boxF6 (HB.out.up hk);go_simp) ?_
 simp only[pX]
 refine WE.c 40 ((pure_n HI.out).mono ?_)
 rintro e wn ⟨rfl,hx⟩
 refine⟨_,rfl,hx,?_⟩
 replace HI:=hid (HI.out.up hx)
 replace HU:=hid (HU.out.up hx)
 replace HB:=hid (HB.out.up hx)
 replace HB3:=hid (HB3.out.up hx)
 replace E:=hid (E.out.trans hx)
 replace HK5:=hid (hx.cell HK5.out)
 replace HK6:=hid (hx.cell HK6.out)
 replace HN7:=hid (HN7.out.up hx)
 clear hx
 simp only[pX]
 rw[M.has_A]
 refine WE.p 41 (.bool true) ?_
 simp only[pX]
 refine WE.p 42 (.bool true) ?_
 simp only[pX]
 refine WE.p 43 (.bool true) ?_
 simp only[pX]
 refine WE.p 44 (.slice (some ad) 2 c7) ?_
 simp only[pX]
 refine WE.p 45 (.int .i64 2) ?_
 simp only[pX]
 refine WE.p 46 (.bool true) ?_
 simp only[pX]
 refine WE.p 47 (.bool true) ?_
 simp only[pX]
 refine WE.p 48 (.bool true) ?_
 simp only[pX]
 refine WE.p 49 (.slice (some ad) 2 c7) ?_
 simp only[pX]
 refine WE.p 50 (.pointer (some ad)) ?_
 simp only[pX]
 refine WE.p 51 (.pointer (some ⟨ad.block,ad.off+4,none⟩)) ?_
 simp only[pX]
 refine WE.p 52 (.pointer (some ⟨ad.block,ad.off+5,none⟩)) ?_
 simp only[pX]
 refine WE.q 53 (.agg #[.bool false,.slice N1 nn1 nc1]) rfl (fun w' hk=>by have c5:=hk.cell HK5.out;have c6:=hk.cell HK6.out;go_simp) ?_
 simp only[pX]
 refine WE.c 54 ((rOf_z (n:=3) (by decide) (by decide) _).mono ?_)
 rintro e wn ⟨v3,rfl,hv3,hx⟩
 refine⟨_,rfl,hx,?_⟩
 obtain⟨A8,n8,c8,rfl,hn8,-⟩:=hv3
 replace HI:=hid (HI.out.up hx)
 replace HU:=hid (HU.out.up hx)
 replace HB:=hid (HB.out.up hx)
 replace HB3:=hid (HB3.out.up hx)
 replace E:=hid (E.out.trans hx)
 replace HK5:=hid (hx.cell HK5.out)
 replace HK6:=hid (hx.cell HK6.out)
 replace HN7:=hid (HN7.out.up hx)
 have HN8:=hid (show LNum wn (.slice A8 n8 c8) (M.limbs 3) from hn8)
 rw[show decide ((3:Int)<0)=false from rfl]
 clear hx hn8
 simp only[pX]
 refine WE.c 55 ((equal_same (g:=false) HN7.out HN8.out).mono ?_)
 rintro e wm ⟨rfl,hx⟩
 refine⟨_,rfl,hx,?_⟩
 replace E:=hid (E.out.trans hx)
 clear hx
 simp only[pX]
 refine WE.p 56 (.bool true) ?_
 simp only[pX]
 refine WE.p 57 (.bool true) ?_
 simp only[pX]
 refine WE.c 58 ((lFresh_n (n:=0) (s:=1) (by decide) _ (HT.out _ E.out).2).mono ?_)
 rintro e wl ⟨v9,rfl,hv9,hx⟩
 refine⟨_,rfl,hx,?_⟩
 obtain⟨N9,nn9,nc9,A9,c9,rfl,-,-⟩:=hv9
 replace E:=hid (E.out.trans hx)
 clear hx
 simp only[pX]
 obtain⟨nm9,hnm9⟩:∃x,(M.frT 0 1).name=x:=⟨_,rfl⟩
 rw[hnm9]
 simp only[show (M.frT 0 1).op=4 from rfl,show (M.frT 0 1).g=false from rfl,show (M.frT 0 1).sort=1 from rfl,show (M.frT 0 1).kids.length=0 from rfl]
 refine WE.p 59 (.int .i64 1) ?_ (hy:=fun w' hk=>by go_simp;rw[field_sort];rfl)
 simp only[pX]
 refine WE.p 60 (.bool true) ?_
 simp only[pX]
 refine WE.p 61 (.bool true) ?_
 simp only[pX]
 refine WE.p 0 (.bool true) ?_
 simp only[pX]
 refine WE.done ?_
 clear HI HU HB HB3 HK5 HK6 HN7 HN8 hnm9
 go_wp2_with fail
 go_ret
 exact⟨rfl,E.out⟩
set_option linter.unusedSimpArgs false
set_option linter.unusedVariables false
open Go.RowKit
def M.opA (op:Int): Bool:=decide (op=4)||decide (op=18)
theorem M.opA_two {op:Int}(h:M.opA op=true): op=4∨op=18:=by
 unfold M.opA at h
 simpa using h
theorem termC_abs:TermC M.opA:=by
 refine⟨fun {ls op v w W K} hP h h1 h2 h3 h4 h5 h6=>?_,fun {l op v w} hP h h1=>?_,fun h=>by cases h⟩
 ·obtain rfl:op=18:=by
   rcases M.opA_two hP with rfl|rfl
   ·exact absurd h4 (by omega)
   ·rfl
  exact reck_abs h h1 h2 h3 (by
   rcases h4 with h4|⟨h4,-⟩|⟨h4,-⟩|⟨-,h4⟩|⟨h4,-⟩
   ·exact absurd h4 (by decide)
   ·exact absurd h4 (by decide)
   ·exact absurd h4 (by decide)
   ·exact h4
   ·exact absurd h4 (by decide)) h5
 ·exfalso
  rcases M.opA_two hP with rfl|rfl<;>omega
theorem M.lift_A:∀c∈(M.lifted M.aP 4).2.cons,M.allOp M.opA c.2=true:=List.all_eq_true.1 (show ((M.lifted M.aP 4).2.cons.all fun c=>M.allOp M.opA c.2)=true by kernel_rfl)
theorem pknown_s {w:World}(hT:TabL w): Calls Tryz.prog 8 #[] w (GivesB w true):=
 pknown_g hT fun w' u mv e hu hm=>over_g termC_abs M.lift_A hu M.few_A (by rw[M.cnt_A];decide) (hT.up e) (by rw[M.cnt_A];exact⟨⟨by decide,by decide⟩,by decide,by decide⟩) hm (by decide +kernel)
set_option linter.unusedSimpArgs false
set_option linter.unusedVariables false
open Go.RowKit
namespace M
mutual
def pfew:Tm→Bool
 | .mk _ _ ls nm _ ks=>decide (nm.length≤30)&&(decide (ls.length≤4)&&pfews ks)
def pfews:List Tm→Bool
 | []=>true
 | t::r=>pfew t&&pfews r
end
theorem pfews_app (a b:List Tm): pfews (a++b)=(pfews a&&pfews b):=by
 induction a with
 | nil=>simp[pfews]
 | cons x r ih=>simp[pfews,ih,Bool.and_assoc]
theorem pfews_take {ks:List Tm}{k:Nat}{t:Tm}(h:ks[k]?=some t): pfews (ks.take (k+1))=(pfews (ks.take k)&&pfew t):=by
 rw[List.take_add_one,h,pfews_app];simp[pfews]
theorem pfews_at:∀{ks:List Tm} {k:Nat} {t:Tm},pfews ks=true→ks[k]?=some t→pfew t=true
 | [],_,_,_,h=>by simp at h
 | x::r,0,t,h,e=>by simp at e;subst e;rw[pfews,Bool.and_eq_true] at h;exact h.1
 | x::r,k+1,t,h,e=>by rw[pfews,Bool.and_eq_true] at h;exact pfews_at h.2 (k:=k) (by simpa using e)
theorem not_pfews {ks:List Tm}{k:Nat}{t:Tm}(e:ks[k]?=some t)(h:pfew t=false): pfews ks=false:=by
 rcases hq:pfews ks with _|_
 ·rfl
 ·rw[pfews_at hq e] at h;cases h
def pfewT (t:Tm): Bool:=decide (kcnt t≤120)&&pfew t
mutual
theorem pfew_kfew:∀{t:Tm},pfew t=true→kfew t=true
 | .mk op g ls nm s ks,h=>by
  rw[pfew,Bool.and_eq_true,Bool.and_eq_true] at h
  rw[kfew,Bool.and_eq_true,Bool.and_eq_true]
  have h2:=of_decide_eq_true h.2.1
  exact⟨h.1,decide_eq_true (by omega),pfews_kfews h.2.2⟩
theorem pfews_kfews:∀{l:List Tm},pfews l=true→kfews l=true
 | [],_=>by rw[kfews]
 | t::r,h=>by
  rw[pfews,Bool.and_eq_true] at h
  rw[kfews,Bool.and_eq_true]
  exact⟨pfew_kfew h.1,pfews_kfews h.2⟩
end
end M
set_option maxHeartbeats 4000000 in
theorem fewNamesP_n (t:M.Tm): ∀{v:Value} {w:World},IsTm w t v→Calls Tryz.prog 33 #[v] w (GivesB w (M.pfew t)):=by
 refine M.Tm.indA (P:=fun t=>∀{v:Value} {w:World},IsTm w t v→Calls Tryz.prog 33 #[v] w (GivesB w (M.pfew t))) (fun op g ls nm so ks ih v w h=>?_) t
 obtain⟨N,nn,nc,A,c,rfl,hn,hk⟩:=h
 replace hk:Tms w ks (.slice A ks.length c):=hk
 show Calls Tryz.prog 33 #[kv op g N nn nc nm so A ks.length c] w _
 obtain⟨hl1,hl2,hl3⟩:=hk.le
 obtain⟨hm1,hm2,hm3⟩:=LNum.len hn
 replace hm1:nn=ls.length:=hm1
 have hm4:nc≤9223372036854775807:=by unfold maxLen at hm3;omega
 obtain⟨n,hn'⟩:∃n,ks.length=n:=⟨_,rfl⟩
 obtain⟨x,hx⟩:∃x,x=nm.length:=⟨_,rfl⟩
 have hsz:(⟨nm.toArray⟩:ByteArray).size=x:=by rw[Lib.size_eq,hx]
 have hsz2:(nm.length:Int)=(x:Int):=by rw[hx]
 obtain⟨z,hz⟩:∃z,M.pfew (.mk op g ls nm so ks)=z:=⟨_,rfl⟩
 have hz':z=(decide (x≤30)&&(decide (nn≤4)&&M.pfews ks)):=by rw[←hz,M.pfew,hx,hm1]
 rw[hz]
 rw[hn'] at hk hl2 ⊢
 have HN:=hid hn'
 clear hx hl1 hz hn' hm1 hm3 hn
 rcases Nat.lt_or_ge 30 x with h30|h30
 ·have HZ:=hid (show false=z by rw[hz',show decide (x≤30)=false by simp;omega];simp)
  have hq:30<(x:Int):=by omega
  clear hk ih hz'
  go_enter Tryz.func33,Tryz.ntmps33
  go_wp2
  go_ret
  obtain rfl:=HZ.out
  exact⟨rfl,Ext.alloc w _⟩
 have hq:decide (30<(x:Int))=false:=by simp;omega
 rcases Nat.lt_or_ge 4 nn with h4|h4
 ·have HZ:=hid (show false=z by rw[hz',show decide (nn≤4)=false by simp;omega];simp)
  have hq2:4<(nn:Int):=by omega
  clear hk ih hz'
  go_enter Tryz.func33,Tryz.ntmps33
  go_wp2
  go_ret
  obtain rfl:=HZ.out
  exact⟨rfl,Ext.alloc w _⟩
 have hq2:decide (4<(nn:Int))=false:=by simp;omega
 have HZ:=hid (show z=M.pfews ks by rw[hz',show decide (x≤30)=true by simp;omega,show decide (nn≤4)=true by simp;omega];rfl)
 have HK:=hid hk
 have IH:=@hid _ @ih
 clear hk ih hz'
 go_enter Tryz.func33,Tryz.ntmps33
 go_wp2_with fail
 go_loopw[3] (fun i wr=>∃(k:Nat),i=.int .i64 (k:Int)∧k≤n∧Hid (M.pfews (ks.take k)=true∧Ext (kboxed w op g N nn nc nm so A n c) wr)) (fun i _=>n-(intOf i).toNat)
 case atStart=>exact⟨0,rfl,Nat.zero_le _,by simp[M.pfews],Ext.refl _⟩
 case round=>
  obtain⟨k,rfl,hk,hR⟩:=hrel
  have E:=hid hR.out.2
  obtain⟨⟨b0,b1,b2,b3,b4,b5⟩,hz⟩:=box6 E.out
  have HS:=hid hR.out.1
  clear hR
  rcases Nat.lt_or_ge k n with hlt|hge
  ·have hlt':(k:Int)<(n:Int):=by omega
   obtain⟨ad,u,N',nn',nc',B,d,rfl,hu,⟨c0,c1,c2,c3,c4,c5⟩,hv⟩:=(HK.out.up ((Ext.alloc w _).trans E.out)).get hlt
   have HU:=hid hu
   have HC:=hid (IH.out k u HU.out hv)
   obtain⟨q,hq'⟩:∃q,M.pfew u=q:=⟨_,rfl⟩
   have HQ:=hid hq'
   have HV:=hid hv
   rw[hq'] at HC
   clear hu hv hq'
   cases q
   ·go_wp2_with (go_at_call 33;refine HC.out.mono ?_;rintro e w' ⟨rfl,hb⟩;replace E:=hid (E.out.trans hb);clear hb)
    go_ret
    obtain rfl:false=z:=by rw[HZ.out,M.not_pfews HU.out HQ.out]
    exact⟨rfl,(Ext.alloc w _).trans E.out⟩
   ·go_wp2_with (go_at_call 33;refine HC.out.mono ?_;rintro e w' ⟨rfl,hb⟩;replace E:=hid (E.out.trans hb);clear hb)
    go_roundw
    case rel=>exact⟨k+1,by simp,by omega,by rw[M.pfews_take HU.out,HS.out,HQ.out];rfl,E.out⟩
    case measure=>simp[intOf];omega
  ·obtain rfl:k=n:=by omega
   go_wp2
   go_ret
   obtain rfl:true=z:=by rw[HZ.out,←HS.out,←HN.out,List.take_length]
   exact⟨rfl,(Ext.alloc w _).trans E.out⟩
theorem fewTermP_n (t:M.Tm){v:Value}{w:World}(h:IsTm w t v): Calls Tryz.prog 9 #[v] w (GivesB w (M.pfewT t)):=by
 obtain⟨N,nn,nc,A,n,c,rfl,-,-,-,-,-,-⟩:=h.shape
 obtain⟨op,hop⟩:∃x,t.op=x:=⟨_,rfl⟩
 obtain⟨g,hg⟩:∃x,t.g=x:=⟨_,rfl⟩
 obtain⟨nm,hnm⟩:∃x,t.name=x:=⟨_,rfl⟩
 obtain⟨so,hso⟩:∃x,t.sort=x:=⟨_,rfl⟩
 rw[hop,hg,hnm,hso] at h ⊢
 obtain⟨m,hm⟩:∃m,min (M.kcnt t) 401=m:=⟨_,rfl⟩
 obtain⟨q,hq⟩:∃q,M.pfew t=q:=⟨_,rfl⟩
 have H:=hid (show ∀w',Ext w w'→Calls Tryz.prog 32 #[kv op g N nn nc nm so A n c] w' (GivesI w' (m:Int)) from fun w' e=>hm▸rkCount_n t (h.up e))
 have HF:=hid (show ∀w',Ext w w'→Calls Tryz.prog 33 #[kv op g N nn nc nm so A n c] w' (GivesB w' q) from fun w' e=>hq▸fewNamesP_n t (h.up e))
 have HM:=hid (show M.pfewT t=(decide ((m:Int)≤120)&&q) by unfold M.pfewT;rw[hq];congr 1;rw[decide_eq_decide];omega)
 rw[HM.out]
 clear h hop hg hnm hso hm hq
 by_cases hm120:(m:Int)≤120
 ·go_enter Tryz.func9,Tryz.ntmps9
  go_wp2_with fail
  refine(H.out _ (Ext.alloc w _)).mono ?_
  rintro e w' ⟨rfl,hb⟩
  have E:=hid hb
  obtain⟨⟨b0,b1,b2,b3,b4,b5⟩,hz⟩:=box6 hb
  clear hb
  go_wp2_with fail
  refine(HF.out _ ((Ext.alloc w _).trans E.out)).mono ?_
  rintro e w2 ⟨rfl,hb⟩
  replace E:=hid (E.out.trans hb)
  clear hb
  go_wp2_with fail
  go_ret
  exact⟨by rw[decide_eq_true hm120];rfl,(Ext.alloc w _).trans E.out⟩
 ·have hq2:decide ((m:Int)≤120)=false:=by simpa using hm120
  go_enter Tryz.func9,Tryz.ntmps9
  go_wp2_with fail
  refine(H.out _ (Ext.alloc w _)).mono ?_
  rintro e w' ⟨rfl,hb⟩
  have E:=hid hb
  obtain⟨⟨b0,b1,b2,b3,b4,b5⟩,hz⟩:=box6 hb
  clear hb
  go_wp2_with fail
  go_ret
  exact⟨by rw[hq2];rfl,(Ext.alloc w _).trans E.out⟩
end Go.Proofs.YtoenjbkmiphhoaaGreatDoor.Q
