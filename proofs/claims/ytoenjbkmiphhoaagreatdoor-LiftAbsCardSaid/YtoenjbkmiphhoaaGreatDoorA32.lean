/-
  Layer 12: contracts of package value: worth, Eval, of terms whose operators are some alone.
-/
import Derived.Test.YtoenjbkmiphhoaaGreatDoorA30
import Derived.Test.YtoenjbkmiphhoaaGreatDoorA31
namespace Go.Proofs.YtoenjbkmiphhoaaGreatDoor.Q
set_option linter.unusedSimpArgs false
set_option linter.unusedVariables false
open Go.RowKit
def M.mWorth (m:List M.Fn)(t:M.Tm): M.Vl:=if M.kIs t=true then M.ev m t else (1,false,[])
structure StrIn (w:World)(m:List M.Fn)(v:Value): Prop where
 list:FnList w m v
 len:m.length≤50000
 fw:∀f∈m,M.funWd f
 wd:∀f∈m,M.fnWd 40 f
theorem StrIn.up {w w':World}{m:List M.Fn}{v:Value}(h:StrIn w m v)(e:Ext w w'): StrIn w' m v:=⟨h.list.up e,h.len,h.fw,h.wd⟩
structure StrInW (w:World)(m:List M.Fn)(v:Value): Prop where
 list:FnList w m v
 len:m.length≤50000
 fw:∀f∈m,M.funWd f
 wd:∀f∈m,M.fnWd 2000000 f
theorem StrInW.up {w w':World}{m:List M.Fn}{v:Value}(h:StrInW w m v)(e:Ext w w'): StrInW w' m v:=⟨h.list.up e,h.len,h.fw,h.wd⟩
theorem StrInW.read {w w':World}{m:List M.Fn}{v u:Value}(h:StrInW w m v)(hu:FnList w' (M.mRead m) u): StrOk w' (M.mRead m) u:=⟨hu,M.mRead_asc m,Nat.le_trans (M.mRead_len m) (Nat.le_trans h.len (by decide)),fun f hf=>h.wd f (M.mRead_mem hf)⟩
theorem vput_boxV {w:World}{k:Nat}{y0 y1 y2:Value}{T:TypeId}(h:Box w k #[y0,y1,y2] T)(x0 x1 x2:Value): Box (put3v w k x0 x1 x2) k #[x0,x1,x2] T:=((h.setAt 0 x0).setAt 1 x1).setAt 2 x2
set_option maxHeartbeats 4000000 in
theorem worth_g {P:Int→Bool}(C:TermC P){U:Nat}(hU:40≤U)(hU2:U≤70000){m:List M.Fn}{t:M.Tm}{mv v:Value}{w:World}(hP:M.allOp P t=true)(hm:StrOk w m mv)(hno:∀f∈m,M.fnWd U f∨M.kHas f.sg.name t=false)(ht:IsTm w t v)(hf:M.kfew t=true)(hT:Tab w): Calls Tryz.prog 80 #[mv,v] w (GivesVW w (M.mWorth m t) (U+50*M.kcnt t)):=by
 have HI:=hid (show ∀w',Ext w w'→Calls Tryz.prog 61 #[v] w' (GivesB w' (M.kIs t)) from fun w' e=>is_t (ht.up e) hf (hT.up e));have HT:=hid (show M.kIs t=true→∀w',Ext w w'→Calls Tryz.prog 125 #[mv,v] w' (GivesVW w' (M.ev m t) (U+50*M.kcnt t)) from fun hk w' e=>by
  unfold M.kIs at hk;rw[Bool.and_eq_true,decide_eq_true_iff] at hk;exact term_g C hU hU2 (M.kcnt t+1) (Nat.lt_succ_self _) hP hk.2 hk.1 hf (hm.up e) hno (ht.up e))
 obtain⟨X,hX⟩:∃X,M.mWorth m t=X:=⟨_,rfl⟩;rw[hX];have HX:=hid (show X=if M.kIs t=true then M.ev m t else (1,false,[]) by rw[←hX];rfl);obtain⟨q,hq⟩:∃q,M.kIs t=q:=⟨_,rfl⟩;rw[hq] at HI HX HT;obtain⟨MA,mc,rfl⟩:=hm.list.shape;obtain⟨mn,hmn⟩:∃n,m.length=n:=⟨_,rfl⟩;rw[hmn] at HT ⊢;obtain⟨N,nn,nc,A,c,rfl,-,-⟩:=ht;obtain⟨o1,ho1⟩:∃o,t.op=o:=⟨_,rfl⟩;obtain⟨o2,ho2⟩:∃o,t.g=o:=⟨_,rfl⟩;obtain⟨o3,ho3⟩:∃o,t.name=o:=⟨_,rfl⟩;obtain⟨o4,ho4⟩:∃o,t.sort=o:=⟨_,rfl⟩;obtain⟨o5,ho5⟩:∃o,t.kids.length=o:=⟨_,rfl⟩;rw[ho1,ho2,ho3,ho4,ho5] at HI HT ⊢;have HTF:=hid (fun w'=>truth_v false w');have HB0:=hid (show Box ((w.alloc (.cells #[.int .i64 o1,.bool o2,.slice N nn nc,str o3,.int .i64 o4,.slice A o5 c] 27)).alloc (.cells zero3v 45)) w.heap.size #[.int .i64 o1,.bool o2,.slice N nn nc,str o3,.int .i64 o4,.slice A o5 c] 27 from(Box.new w _ _).alloc _);have HB1:=hid (show Box ((w.alloc (.cells #[.int .i64 o1,.bool o2,.slice N nn nc,str o3,.int .i64 o4,.slice A o5 c] 27)).alloc (.cells zero3v 45)) (w.heap.size+1) zero3v 45 from Box.at_ (w:=w.alloc (.cells #[.int .i64 o1,.bool o2,.slice N nn nc,str o3,.int .i64 o4,.slice A o5 c] 27)) _ _ (by simp));have E0:=hid (alloc_two w (.cells #[.int .i64 o1,.bool o2,.slice N nn nc,str o3,.int .i64 o4,.slice A o5 c] 27) (.cells zero3v 45));clear hP hm hf hT hX hq hmn ho1 ho2 ho3 ho4 ho5;go_enter Tryz.func80,Tryz.ntmps80
 go_upto_region 1 with (fail)
 refine vwp_at (fun W=>Box W w.heap.size #[.int .i64 o1,.bool o2,.slice N nn nc,str o3,.int .i64 o4,.slice A o5 c] 27∧Box W (w.heap.size+1) zero3v 45∧Ext w W) ⟨HB0.out,HB1.out,E0.out⟩ ?_;clear HB0 HB1 E0;intro W ⟨hb0,hb1,he⟩;obtain⟨g0,hg0⟩:∃g,w.heap.size=g:=⟨_,rfl⟩;have HG:=hid (show w.heap.size≤g0+1 by omega);rw[hg0] at hb0 hb1 ⊢;have HB0:=hid hb0;have HB1:=hid hb1;have E:=hid he;clear hb0 hb1 he hg0;obtain⟨⟨b0,b1,b2,b3,b4,b5⟩,-,-⟩:=boxF6 HB0.out;go_wp2_with fail
 refine(HI.out _ E.out).mono ?_;rintro e w1 ⟨rfl,hx⟩;replace E:=hid (E.out.trans hx);replace HB0:=hid (HB0.out.up hx);replace HB1:=hid (HB1.out.up hx);clear hx b0 b1 b2 b3 b4 b5 HI;obtain⟨⟨b0,b1,b2,b3,b4,b5⟩,-,-⟩:=boxF6 HB0.out;cases q
 ·have HE:=hid (show X=M.vTruth false by rw[HX.out];rfl);clear HX HT;go_wp2_with fail
  refine(HTF.out _).mono ?_;rintro e w3 ⟨v3,rfl,hv3,hb⟩;have HV3:=hid hv3;obtain⟨N3,n3,c3,rfl,-⟩:=hv3;replace E:=hid (E.out.trans hb);replace HB1:=hid (HB1.out.up hb);clear hb HTF b0 b1 b2 b3 b4 b5;obtain⟨⟨r0,r1,r2⟩,⟨f0,f1,f2⟩,hz⟩:=box3v HB1.out;go_wp2_with fail
  refine bodyPost_ret (v:=vv (M.vTruth false).1 (M.vTruth false).2.1 N3 n3 c3) (by simp[results,Tryz.results80,go_sem,r0,r1,r2,hz]) rfl ?_;rw[HE.out];exact v_stored HB1.out HV3.out (Nat.zero_le _) E.out HG.out
 ·have HE:=hid (show X=M.ev m t by rw[HX.out,if_pos rfl]);have HC:=hid (HT.out rfl _ E.out);rw[←HE.out] at HC;clear HX HT HTF;go_wp2_with fail
  refine HC.out.mono ?_;rintro e w3 ⟨v3,rfl,hv3,hb,hwd⟩;have HV3:=hid hv3;obtain⟨N3,n3,c3,rfl,-⟩:=hv3;replace E:=hid (E.out.trans hb);replace HB1:=hid (HB1.out.up hb);have HWX:=hid hwd;clear hb HC b0 b1 b2 b3 b4 b5 hwd;obtain⟨⟨r0,r1,r2⟩,⟨f0,f1,f2⟩,hz⟩:=box3v HB1.out;obtain⟨xs,xg,xl⟩:=X;go_wp2_with fail
  refine bodyPost_ret (v:=vv xs xg N3 n3 c3) (by simp[results,Tryz.results80,go_sem,r0,r1,r2,hz]) rfl ?_;exact v_stored HB1.out HV3.out HWX.out E.out HG.out
set_option maxHeartbeats 4000000 in
theorem eval_gU {P:Int→Bool}(C:TermC P){U:Nat}(hU:40≤U)(hU2:U≤70000){m:List M.Fn}{t:M.Tm}{mv v:Value}{w:World}(hP:M.allOp P t=true)(hm:StrInW w m mv)(hno:∀f∈m,M.fnWd U f∨M.kHas f.sg.name t=false)(ht:IsTm w t v)(hf:M.kfew t=true)(hT:Tab w): Calls Tryz.prog 46 #[v,mv] w (GivesVW w (M.mEval m t) (U+50*M.kcnt t)):=by
 have HRD:=hid (show ∀w',Ext w w'→Calls Tryz.prog 77 #[mv] w' (fun e w''=>∃u,e=.returned u∧FnList w' (M.mRead m) u∧Ext w' w'') from fun w' e=>read_v (hm.list.up e) fun f hf=>(hm.fw f hf).2.1);have HW:=hid (show ∀w' u,Ext w w'→FnList w' (M.mRead m) u→Calls Tryz.prog 80 #[u,v] w' (GivesVW w' (M.mEval m t) (U+50*M.kcnt t)) from fun w' u e hu=>worth_g C hU hU2 hP (hm.read hu) (fun f hf=>hno f (M.mRead_mem hf)) (ht.up e) hf (hT.up e));obtain⟨X,hX⟩:∃X,M.mEval m t=X:=⟨_,rfl⟩;rw[hX] at HW ⊢;obtain⟨MA,mc,rfl⟩:=hm.list.shape;obtain⟨mn,hmn⟩:∃n,m.length=n:=⟨_,rfl⟩;rw[hmn] at HRD ⊢;obtain⟨N,nn,nc,A,c,rfl,-,-⟩:=ht;obtain⟨o1,ho1⟩:∃o,t.op=o:=⟨_,rfl⟩;obtain⟨o2,ho2⟩:∃o,t.g=o:=⟨_,rfl⟩;obtain⟨o3,ho3⟩:∃o,t.name=o:=⟨_,rfl⟩;obtain⟨o4,ho4⟩:∃o,t.sort=o:=⟨_,rfl⟩;obtain⟨o5,ho5⟩:∃o,t.kids.length=o:=⟨_,rfl⟩;rw[ho1,ho2,ho3,ho4,ho5] at HW ⊢;have HB0:=hid (show Box ((w.alloc (.cells #[.int .i64 o1,.bool o2,.slice N nn nc,str o3,.int .i64 o4,.slice A o5 c] 27)).alloc (.cells zero3v 45)) w.heap.size #[.int .i64 o1,.bool o2,.slice N nn nc,str o3,.int .i64 o4,.slice A o5 c] 27 from(Box.new w _ _).alloc _);have HB1:=hid (show Box ((w.alloc (.cells #[.int .i64 o1,.bool o2,.slice N nn nc,str o3,.int .i64 o4,.slice A o5 c] 27)).alloc (.cells zero3v 45)) (w.heap.size+1) zero3v 45 from Box.at_ (w:=w.alloc (.cells #[.int .i64 o1,.bool o2,.slice N nn nc,str o3,.int .i64 o4,.slice A o5 c] 27)) _ _ (by simp));have E0:=hid (alloc_two w (.cells #[.int .i64 o1,.bool o2,.slice N nn nc,str o3,.int .i64 o4,.slice A o5 c] 27) (.cells zero3v 45));clear hP hm hf hT hX hmn ho1 ho2 ho3 ho4 ho5;go_enter Tryz.func46,Tryz.ntmps46
 go_upto_region 1 with (fail)
 refine vwp_at (fun W=>Box W w.heap.size #[.int .i64 o1,.bool o2,.slice N nn nc,str o3,.int .i64 o4,.slice A o5 c] 27∧Box W (w.heap.size+1) zero3v 45∧Ext w W) ⟨HB0.out,HB1.out,E0.out⟩ ?_;clear HB0 HB1 E0;intro W ⟨hb0,hb1,he⟩;obtain⟨g0,hg0⟩:∃g,w.heap.size=g:=⟨_,rfl⟩;have HG:=hid (show w.heap.size≤g0+1 by omega);rw[hg0] at hb0 hb1 ⊢;have HB0:=hid hb0;have HB1:=hid hb1;have E:=hid he;clear hb0 hb1 he hg0;refine wp_region_D [(0,0),(2,0),(1,1),(3,1),(4,4)] fun wd hb=>?_;replace E:=hid (E.out.trans hb);replace HB0:=hid (HB0.out.up hb);replace HB1:=hid (HB1.out.up hb);clear hb;refine WE.p 5 (.slice MA mn mc) ?_;simp only[pX];refine WE.q 7 (kv o1 o2 N nn nc o3 o4 A o5 c) rfl (fun w' hk=>by obtain⟨⟨x0,x1,x2,x3,x4,x5⟩,-,-⟩:=boxF6 (HB0.out.up hk);go_simp) ?_;simp only[pX];refine WE.c 6 ((HRD.out _ E.out).mono ?_);rintro e w1 ⟨u,rfl,hu,hb⟩;refine⟨_,rfl,hb,?_⟩;replace E:=hid (E.out.trans hb);replace HB1:=hid (HB1.out.up hb);have HC:=hid (HW.out _ u E.out (hu.up hb));obtain⟨B,c2,rfl⟩:=hu.shape;clear hb hu HRD HW HB0;simp only[pX];refine WE.c 8 (HC.out.mono ?_);rintro e w3 ⟨v3,rfl,hv3,hb,hwd⟩;refine⟨_,rfl,hb,?_⟩;have HV3:=hid hv3;obtain⟨N3,n3,c3,rfl,-⟩:=hv3;replace E:=hid (E.out.trans hb);replace HB1:=hid (HB1.out.up hb);have HWX:=hid hwd;clear hb HC hwd;obtain⟨⟨r0,r1,r2⟩,⟨f0,f1,f2⟩,hz⟩:=box3v HB1.out;obtain⟨xs,xg,xl⟩:=X;simp only[pX];refine WE.store (w':=put3v w3 (g0+1) (.int .i64 xs) (.bool xg) (.slice N3 n3 c3)) rfl rfl (by rfl) (by go_simp) (by simp) ?_;refine WE.done ?_;have HP:=hid (show GivesVW w (xs,xg,xl) (U+50*M.kcnt t) (.returned (vv xs xg N3 n3 c3)) (put3v w3 (g0+1) (.int .i64 xs) (.bool xg) (.slice N3 n3 c3)) from v_stored HB1.out HV3.out HWX.out E.out HG.out);have hB2:=vput_boxV HB1.out (.int .i64 xs) (.bool xg) (.slice N3 n3 c3);obtain⟨W3,hW3⟩:∃W3,W3=put3v w3 (g0+1) (.int .i64 xs) (.bool xg) (.slice N3 n3 c3):=⟨_,rfl⟩;rw[←hW3] at HP hB2 ⊢;clear hW3 r0 r1 r2 f0 f1 f2 hz;obtain⟨⟨r0,r1,r2⟩,-,hz⟩:=box3v hB2;go_wp2_with fail
 exact bodyPost_ret (v:=vv xs xg N3 n3 c3) (by simp[results,Tryz.results46,go_sem,r0,r1,r2,hz]) rfl HP.out
set_option linter.unusedSimpArgs false
set_option linter.unusedVariables false
open Go.RowKit
theorem isVl_num {w:World}{Z:Int}{A:Option Addr}{n c:Nat}{d:Bool}(hd:decide (Z<0)=d)(h:LNum w (.slice A n c) (M.limbs Z.natAbs)): IsVl w (M.vz 2 Z) (vv 2 d A n c):=⟨A,n,c,by rw[←hd];rfl,h⟩
theorem equal_same {w:World}{g:Bool}{A A':Option Addr}{n c n' c':Nat}{ls:List Nat}(h:LNum w (.slice A n c) ls)(h':LNum w (.slice A' n' c') ls): Calls Tryz.prog 30 #[.agg #[.bool g,.slice A n c],.agg #[.bool g,.slice A' n' c']] w (GivesB w true):=by
 have:=requal_n (g:=g) (g':=g) h h'
 rwa [decide_eq_true (show g=g∧ls=ls from⟨rfl,rfl⟩)] at this
theorem field_vN (s:Int)(g:Bool)(N:Option Addr)(nn nc:Nat)(w:World): (Instr.field 45 (vv s g N nn nc) 1).run Tryz.prog w=.ok (.agg #[.bool g,.slice N nn nc]) w:=by kernel_rfl
set_option linter.unusedSimpArgs false
set_option linter.unusedVariables false
open Go.RowKit
section
variable {P:Program} {ops:Array Oper} {Q:Exit→Act→World→Prop} {i j k:Nat} {r s t:Route} {a:Act} {w:World}
end
namespace M
theorem vIs_vz (Z:Int): vIs (vz 2 Z) 2=true:=by
 unfold vIs;rw[show M.isZ (vz 2 Z).2.1 (vz 2 Z).2.2=true from M.isZ_of Z];rfl
end M
def VBytes (w:World)(v:Value)(xs:List Nat): Prop:=∃A n c,v=.slice A n c∧n=xs.length∧n≤c∧c≤maxLen∧∀(k x:Nat),xs[k]?=some x→x≤255∧∃ad,A=some ad∧ad.block<w.heap.size∧w.cell? (ad.add k)=some (.int .u8 (x:Int))
theorem VBytes.up {w w':World}{v:Value}{xs:List Nat}(h:VBytes w v xs)(e:Ext w w'): VBytes w' v xs:=by
 obtain⟨A,n,c,h1,h2,h3,h4,h5⟩:=h;refine⟨A,n,c,h1,h2,h3,h4,fun k x hk=>?_⟩;obtain⟨hx,ad,ha,hb,hc⟩:=h5 k x hk;exact⟨hx,ad,ha,Nat.lt_of_lt_of_le hb e.size,e.cell hc⟩
set_option linter.unusedSimpArgs false
set_option linter.unusedVariables false
open Go.RowKit
namespace M
theorem kcheck_cnt {op:Int}{l:List Tm}(h:kcheck op l=0): 1+kcnts l≤400:=by
 unfold kcheck at h
 split at h
 ·simp at h
 ·split at h
  ·rename_i h2 
   exact absurd h h2
  ·split at h
   ·simp at h
   ·omega
theorem kiss_of:∀{l:List Tm},kIss l=true→kiss l=true
 | [],_=>by rw[kiss]
 | t::r,h=>by
  unfold kIss at h;rw[List.all_cons,Bool.and_eq_true] at h;rw[kiss,Bool.and_eq_true];refine⟨?_,kiss_of h.2⟩;have h1:=h.1;unfold kIs at h1;rw[Bool.and_eq_true] at h1;exact h1.2
theorem mk_is {op:Int}{l:List Tm}(h1:5≤op)(h2:op≤22)(ha:kargs op l.length=true)(hl:kIss l=true)(hc:kcheck op l=0): kmake op l=(.mk op false [] [] (kres op l) l,0)∧kIs (.mk op false [] [] (kres op l) l)=true:=by
 constructor
 ·unfold kmake;rw[if_neg (by omega),if_neg (by rw[ha];simp),if_neg (by rw[hl];simp),if_neg (by rw[hc];simp)]
 ·unfold kIs;rw[Bool.and_eq_true];refine⟨decide_eq_true ?_,?_⟩
  ·rw[kcnt];exact kcheck_cnt hc
  ·rw[kis,Bool.and_eq_true];refine⟨kiss_of hl,?_⟩;unfold khead;rw[if_neg (by omega),if_neg (by omega),if_neg (by omega),ha,hc,decide_eq_true (show (5≤op∧op≤22) from⟨h1,h2⟩)];simp;decide +kernel
theorem evs_is {m:List Fn}{l:List Tm}(hl:kIss l=true): evs (mRead m) l=l.map (mEval m):=by
 rw[evs_map];refine List.map_congr_left fun t ht=>?_;unfold mEval;rw[if_pos (List.all_eq_true.1 hl t ht)]
theorem vIs_truth (b:Bool): vIs (vTruth b) 1=true:=by cases b<;>kernel_rfl
theorem vIs_zero {s:Int}(h:s=1∨s=2): vIs (s,false,[]) s=true:=by rcases h with rfl|rfl<;>kernel_rfl
theorem mOf_is {m:List Fn}(hm:∀f∈m,fnIs f=true){s:Sg}(hs:s.ret=1∨s.ret=2)(l:List Vl): vIs (mOf m s l) s.ret=true:=by
 unfold mOf
 split
 ·exact vIs_zero hs
 ·rename_i f hf
  have h1:f.sg=s:=by simpa using List.find?_some hf
  have h2:=hm f (List.mem_of_find?_eq_some hf);unfold fnIs at h2;rw[Bool.and_eq_true,Bool.and_eq_true] at h2
  split
  ·rename_i r hr
   have h3:=List.all_eq_true.1 h2.2.2 r (List.mem_of_find?_eq_some hr);rw[Bool.and_eq_true,h1] at h3;exact h3.2
  ·rw[←h1];exact h2.2.1
theorem vIs_two {x:Vl}(h:vIs x 2=true): x.1=2∧M.isZ x.2.1 x.2.2=true:=by
 unfold vIs at h;simp only[Bool.and_eq_true,decide_eq_true_eq] at h;exact⟨h.1,h.2.1⟩
theorem ev_is {m:List Fn}(hm:∀f∈m,fnIs f=true)(t:Tm): kis t=true→vIs (ev m t) t.sort=true:=by
 refine Tm.indA (P:=fun t=>kis t=true→vIs (ev m t) t.sort=true) (fun op g ls nm s ks ih h=>?_) t;rw[kis_mk,Bool.and_eq_true] at h;obtain⟨hk,hh⟩:=h;show vIs (ev m (.mk op g ls nm s ks)) s=true;rw[ev]
 by_cases h1:op=1
 ·unfold khead at hh;rw[if_pos h1] at hh ⊢;simp only[Bool.and_eq_true,decide_eq_true_eq] at hh;obtain⟨hz,-,rfl,-⟩:=hh;unfold vIs;rw[hz];rfl
 rw[if_neg h1]
 by_cases h2:op=2
 ·unfold khead at hh;rw[if_neg h1,if_pos (Or.inl h2)] at hh;simp only[Bool.and_eq_true,decide_eq_true_eq] at hh;obtain⟨-,-,rfl,-⟩:=hh;rw[if_pos h2];exact vIs_truth true
 rw[if_neg h2]
 by_cases h3:op=3
 ·unfold khead at hh;rw[if_neg h1,if_pos (Or.inr h3)] at hh;simp only[Bool.and_eq_true,decide_eq_true_eq] at hh;obtain⟨-,-,rfl,-⟩:=hh;rw[if_pos h3];exact vIs_truth false
 rw[if_neg h3]
 by_cases h4:op=4
 ·unfold khead at hh;rw[if_neg h1,if_neg (by omega),if_pos h4] at hh;simp only[Bool.and_eq_true,decide_eq_true_eq] at hh;rw[if_pos h4];exact mOf_is hm (s:=⟨nm,(evs m ks).map (·.1),s⟩) hh.2.2.2 _
 rw[if_neg h4];obtain⟨ho1,ho2,ha,hc,hs⟩:=khead_op hh h1 h2 h3 h4
 by_cases h12:op=12
 ·subst h12;obtain⟨x,y,z,rfl⟩:=three_of (kargs_three ha);have hso:y.sort=z.sort:=by
   unfold kcheck at hc
   split at hc
   ·simp at hc
   ·rename_i hq
    have hq':ksorted 12 [x,y,z]=true:=by simpa using hq
    unfold ksorted at hq';rw[if_neg (by decide),if_pos rfl,Bool.and_eq_true] at hq';exact of_decide_eq_true hq'.2
  have hsy:s=y.sort:=by rw[hs];unfold kres;rw[if_neg (by decide),if_pos rfl];rfl
  rw[if_pos rfl,evs_map];have hy:=ih 1 y rfl (kiss_at hk (k:=1) rfl);have hz:=ih 2 z rfl (kiss_at hk (k:=2) rfl)
  split
  ·rw[hsy];exact hy
  ·rw[hsy,hso];exact hz
 rw[if_neg h12]
 by_cases hs2:s=2
 ·rw[if_pos hs2,hs2];exact vIs_vz _
 ·rw[if_neg hs2];have:s=1:=by
   rw[hs] at hs2 ⊢;unfold kres at hs2 ⊢
   split at hs2
   ·exact absurd rfl hs2
   ·rename_i hq
    rw[if_neg hq,if_neg h12]
  rw[this];exact vIs_truth _
theorem eval_is {m:List Fn}{t:Tm}(h:kIs t=true): vIs (mEval m t) t.sort=true:=by
 unfold mEval;rw[if_pos h];unfold kIs at h;rw[Bool.and_eq_true] at h;refine ev_is (fun f hf=>?_) t h.2;unfold mRead at hf
 split at hf
 ·rename_i hi
  obtain⟨k,hk⟩:=List.getElem?_of_mem hf;exact mIs_fn hi hk
 ·cases hf
theorem eval_mk {op:Int}{l:List Tm}(m:List Fn)(h1:5≤op)(h2:op≤22)(h12:op≠12)(ha:kargs op l.length=true)(hl:kIss l=true)(hc:kcheck op l=0):
 mEval m (kmake op l).1=if kres op l=2 then vz 2 (mReck op ((l.map (mEval m)).map cz)) else vTruth (mTold op (l.map (mEval m))):=by
 obtain⟨hm,hi⟩:=mk_is h1 h2 ha hl hc;rw[hm];show mEval m (.mk op false [] [] (kres op l) l)=_;rw[mEval,if_pos hi,ev,if_neg (by omega),if_neg (by omega),if_neg (by omega),if_neg (by omega),if_neg h12,evs_is hl]
theorem vIs_eq {x:Vl}(h:vIs x 2=true): x=vz 2 (cz x):=by
 obtain⟨h1,h2⟩:=vIs_two h;obtain⟨c1,c2⟩:=canon_isZ h2;obtain⟨s,g,ls⟩:=x;obtain rfl:s=2:=h1;show (2,g,ls)=(2,decide (cz (2,g,ls)<0),M.limbs (cz (2,g,ls)).natAbs);rw[←c1,←c2]
theorem kcheck_of {op:Int}{l:List Tm}(hs:ksorted op l=true)(hl:klin op l=0)(hc:1+kcnts l≤400): kcheck op l=0:=by
 unfold kcheck;rw[if_neg (by rw[hs];simp),if_neg (by rw[hl];simp),if_neg (by omega)]
theorem kres_two {op:Int}{l:List Tm}(h:13≤op∧op≤18): kres op l=2:=by
 unfold kres;rw[if_pos (by omega)]
section
variable {m:List Fn} {p q:Tm}
end
end M
set_option linter.unusedSimpArgs false
set_option linter.unusedVariables false
open Go.RowKit
namespace M
def fLo (nm:List UInt8)(T:List Fn): Prop:=∀f∈T,Go.Op.bytesLess f.sg.name nm=true
def fHi (nm:List UInt8)(D:List Fn): Prop:=∀f∈D,Go.Op.bytesLess nm f.sg.name=true
theorem less_no {a b:List UInt8}(h:Go.Op.bytesLess a b=true): Go.Op.bytesLess b a=false:=by
 rcases hq:Go.Op.bytesLess b a with _|_
 ·rfl
 ·have:=less_trans h hq;rw[less_irrefl] at this;cases this
theorem less_ne {a b:List UInt8}(h:Go.Op.bytesLess a b=true): a≠b:=by
 rintro rfl;rw[less_irrefl] at h;cases h
theorem hi_drop {nm:List UInt8}{D:List Fn}(h:fHi nm D): (D.dropWhile fun g=>Go.Op.bytesLess g.sg.name nm)=D∧(D.takeWhile fun g=>Go.Op.bytesLess g.sg.name nm)=[]∧(D.dropWhile fun g=>decide (g.sg.name=nm))=D:=by
 rcases D with _|⟨x,r⟩
 ·exact⟨rfl,rfl,rfl⟩
 ·have h1:=h x (List.mem_cons_self ..);rw[List.dropWhile_cons,List.takeWhile_cons,List.dropWhile_cons,less_no h1,decide_eq_false (Ne.symm (less_ne h1))];exact⟨rfl,rfl,rfl⟩
theorem put_new {nm:List UInt8}{f:Fn}(hf:f.sg.name=nm): ∀{T D:List Fn},fLo nm T→fHi nm D→mPut (T++D) f=T++f::D
 | [],D,_,hd=>by
  subst hf;obtain⟨h1,h2,h3⟩:=hi_drop hd;unfold mPut;rw[List.nil_append,h1,h2,h3]
  first|done|rfl
 | x::T,D,ht,hd=>by
  have ih:=put_new hf (T:=T) (D:=D) (fun g hg=>ht g (List.mem_cons_of_mem _ hg)) hd;have h1:=ht x (List.mem_cons_self ..);subst hf;unfold mPut at ih ⊢;rw[List.cons_append,List.takeWhile_cons,List.dropWhile_cons,h1,if_pos rfl,if_pos rfl,List.cons_append,ih];rfl
theorem put_old {nm:List UInt8}{f g:Fn}(hf:f.sg.name=nm)(hg:g.sg.name=nm): ∀{T D:List Fn},fLo nm T→fHi nm D→mPut (T++g::D) f=T++f::D
 | [],D,_,hd=>by
  subst hf;obtain⟨h1,h2,h3⟩:=hi_drop hd;unfold mPut;rw[List.nil_append,List.takeWhile_cons,List.dropWhile_cons,hg,less_irrefl,if_neg (by simp),if_neg (by simp),List.dropWhile_cons,hg,decide_eq_true rfl,if_pos rfl,h3]
  first|done|rfl
 | x::T,D,ht,hd=>by
  have ih:=put_old hf hg (T:=T) (D:=D) (fun g hg=>ht g (List.mem_cons_of_mem _ hg)) hd;have h1:=ht x (List.mem_cons_self ..);subst hf;unfold mPut at ih ⊢;rw[List.cons_append,List.takeWhile_cons,List.dropWhile_cons,h1,if_pos rfl,if_pos rfl,List.cons_append,ih];rfl
def fPair (m:List Fn): Prop:=m.Pairwise fun f g=>Go.Op.bytesLess f.sg.name g.sg.name=true
theorem asc_pair {m:List Fn}: kAsc (m.map Fn.sg)↔fPair m:=by
 unfold fPair;rw[List.pairwise_iff_getElem];constructor
 ·intro h i j hi hj hij;exact h i j _ _ hij (by rw[List.getElem?_map,List.getElem?_eq_getElem hi];rfl) (by rw[List.getElem?_map,List.getElem?_eq_getElem hj];rfl)
 ·intro h i j x y hij hx hy;rw[List.getElem?_map] at hx hy;obtain⟨f,hf,rfl⟩:=Option.map_eq_some_iff.1 hx;obtain⟨g,hg,rfl⟩:=Option.map_eq_some_iff.1 hy;obtain⟨hi,rfl⟩:=List.getElem?_eq_some_iff.1 hf;obtain⟨hj,rfl⟩:=List.getElem?_eq_some_iff.1 hg;exact h i j hi hj hij
theorem parts (nm:List UInt8): ∀{m:List Fn},fPair m→∃T D,(m=T++D∨∃g,g.sg.name=nm∧m=T++g::D)∧fLo nm T∧fHi nm D
 | [],_=>⟨[],[],.inl rfl,fun f hf=>(by cases hf),fun f hf=>(by cases hf)⟩
 | x::r,h=>by
  unfold fPair at h;rw[List.pairwise_cons] at h;obtain⟨h1,h2⟩:=h
  by_cases hx:Go.Op.bytesLess x.sg.name nm=true
  ·obtain⟨T,D,h3,h4,h5⟩:=parts nm (m:=r) h2;refine⟨x::T,D,?_,?_,h5⟩
   ·rcases h3 with rfl|⟨g,hg,rfl⟩
    ·exact .inl rfl
    ·exact .inr ⟨g,hg,rfl⟩
   ·intro f hf;rcases List.mem_cons.1 hf with rfl|hf
    ·exact hx
    ·exact h4 f hf
  ·have hx':Go.Op.bytesLess x.sg.name nm=false:=by simpa using hx
   by_cases he:x.sg.name=nm
   ·exact⟨[],r,.inr ⟨x,he,rfl⟩,fun f hf=>(by cases hf),fun f hf=>he▸h1 f hf⟩
   ·have hn:=less_tri hx' he;refine⟨[],x::r,.inl rfl,fun f hf=>(by cases hf),fun f hf=>?_⟩;rcases List.mem_cons.1 hf with rfl|hf
    ·exact hn
    ·exact less_trans hn (h1 f hf)
structure Parts (nm:List UInt8)(m T D:List Fn): Prop where
 eq:m=T++D∨∃g,g.sg.name=nm∧m=T++g::D
 lo:fLo nm T
 hi:fHi nm D
 pair:fPair (T++D)
theorem parts_of {m:List Fn}(nm:List UInt8)(h:mIs m=true): ∃T D,Parts nm m T D:=by
 have hp:=asc_pair.1 (mIs_asc h);obtain⟨T,D,h1,h2,h3⟩:=parts nm hp;refine⟨T,D,h1,h2,h3,?_⟩;rcases h1 with rfl|⟨g,hg,rfl⟩
 ·exact hp
 ·unfold fPair at hp ⊢;rw[List.pairwise_append] at hp ⊢;exact⟨hp.1,(List.pairwise_cons.1 hp.2.1).2,fun a ha b hb=>hp.2.2 a ha b (List.mem_cons_of_mem _ hb)⟩
section
variable {nm:List UInt8} {m T D:List Fn} (P:Parts nm m T D)
include P
theorem Parts.put {f:Fn}(hf:f.sg.name=nm): mPut m f=T++f::D:=by
 rcases P.eq with e|⟨g,hg,e⟩
 ·rw[e,put_new hf P.lo P.hi]
 ·rw[e,put_old hf hg P.lo P.hi]
theorem Parts.mem {f:Fn}(h:f∈T++D): f∈m∧f.sg.name≠nm:=by
 have hn:f.sg.name≠nm:=by
  rcases List.mem_append.1 h with h|h
  ·exact less_ne (P.lo f h)
  ·exact Ne.symm (less_ne (P.hi f h))
 refine⟨?_,hn⟩;rcases P.eq with e|⟨g,hg,e⟩
 ·rw[e];exact h
 ·rw[e];rcases List.mem_append.1 h with h|h
  ·exact List.mem_append_left _ h
  ·exact List.mem_append_right _ (List.mem_cons_of_mem _ h)
theorem Parts.asc {f:Fn}(hf:f.sg.name=nm): kAsc ((T++f::D).map Fn.sg):=by
 refine asc_pair.2 ?_;have hp:=P.pair;unfold fPair at hp ⊢;rw[List.pairwise_append] at hp ⊢;refine⟨hp.1,List.pairwise_cons.2 ⟨fun g hg=>by rw[hf];exact P.hi g hg,hp.2.1⟩,fun a ha b hb=>?_⟩;rcases List.mem_cons.1 hb with rfl|hb
 ·rw[hf];exact P.lo a ha
 ·exact hp.2.2 a ha b hb
end
theorem fnIs_const {nm:List UInt8}{Z:Int}(h:ksig ⟨nm,[],2⟩=true): fnIs (constF nm (vz 2 Z))=true:=by
 unfold fnIs;rw[show ksig (constF nm (vz 2 Z)).sg=true from h,show vIs (constF nm (vz 2 Z)).els (constF nm (vz 2 Z)).sg.ret=true from vIs_vz Z];rfl
theorem Parts.is {nm:List UInt8}{m T D:List Fn}(P:Parts nm m T D)(hm:mIs m=true){Z:Int}(h:ksig ⟨nm,[],2⟩=true): mIs (T++constF nm (vz 2 Z)::D)=true:=by
 refine mIs_of (P.asc rfl) fun k f hk=>?_;rcases List.mem_append.1 (List.mem_of_getElem? hk) with hf|hf
 ·obtain⟨j,hj⟩:=List.getElem?_of_mem (P.mem (List.mem_append_left _ hf)).1;exact mIs_fn hm hj
 ·rcases List.mem_cons.1 hf with rfl|hf
  ·exact fnIs_const h
  ·obtain⟨j,hj⟩:=List.getElem?_of_mem (P.mem (List.mem_append_right _ hf)).1;exact mIs_fn hm hj
def conT (nm:List UInt8): Tm:=.mk 4 false [] nm 2 []
theorem Parts.eval {nm:List UInt8}{m T D:List Fn}(P:Parts nm m T D)(hm:mIs m=true){Z:Int}(h:ksig ⟨nm,[],2⟩=true)(hk:kIs (conT nm)=true): mEval (T++constF nm (vz 2 Z)::D) (conT nm)=vz 2 Z:=by
 unfold mEval;rw[if_pos hk,mRead,if_pos (P.is hm h)];unfold conT;rw[ev,if_neg (by decide),if_neg (by decide),if_neg (by decide),if_pos rfl,evs];have hx:(T++constF nm (vz 2 Z)::D)[T.length]?=some (constF nm (vz 2 Z)):=by
  rw[List.getElem?_append_right (Nat.le_refl _),Nat.sub_self];rfl
 show mOf (T++constF nm (vz 2 Z)::D) ⟨nm,[],2⟩ []=vz 2 Z;rw[mOf_at (s:=⟨nm,[],2⟩) [] (P.asc rfl) hx rfl,if_pos (show (constF nm (vz 2 Z)).sg=⟨nm,[],2⟩ from rfl)];rfl
end M
end Go.Proofs.YtoenjbkmiphhoaaGreatDoor.Q
