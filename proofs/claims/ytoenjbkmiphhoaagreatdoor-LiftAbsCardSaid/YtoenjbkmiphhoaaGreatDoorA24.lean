/-
  Layer 12: contracts of package value: a value's words; holds, fails, Same, own, truth, chosen.
-/
import Derived.Test.YtoenjbkmiphhoaaGreatDoorA19
import Derived.Test.YtoenjbkmiphhoaaGreatDoorA23
namespace Go.Proofs.YtoenjbkmiphhoaaGreatDoor.Q
set_option linter.unusedSimpArgs false
set_option linter.unusedVariables false
open Go.RowKit
abbrev vv (s:Int)(g:Bool)(N:Option Addr)(nn nc:Nat): Value:=.agg #[.int .i64 s,.bool g,.slice N nn nc]
def IsVl (w:World)(x:M.Vl)(v:Value): Prop:=∃N nn nc,v=vv x.1 x.2.1 N nn nc∧LNum w (.slice N nn nc) x.2.2
theorem IsVl.up {w w':World}{x:M.Vl}{v:Value}(h:IsVl w x v)(e:Ext w w'): IsVl w' x v:=by
 obtain⟨N,nn,nc,h1,h2⟩:=h;exact⟨N,nn,nc,h1,h2.up e⟩
theorem IsVl.kz {w w':World}{x:M.Vl}{v:Value}(h:IsVl w x v)(e:Keeps w w'): IsVl w' x v:=by
 obtain⟨N,nn,nc,h1,h2⟩:=h;exact⟨N,nn,nc,h1,e _ _ h2⟩
def GivesV (w:World)(x:M.Vl)(e:Ending)(w':World): Prop:=∃v,e=.returned v∧IsVl w' x v∧Ext w w'
abbrev zero3v:Array Value:=#[.int .i64 0,.bool false,.slice none 0 0]
theorem box3v {w:World}{k:Nat}{x0 x1 x2:Value}{T:TypeId}(h:Box w k #[x0,x1,x2] T): (w.cell? ⟨k,0,none⟩=some x0∧w.cell? ⟨k,1,none⟩=some x1∧w.cell? ⟨k,2,none⟩=some x2)∧(w.frozen? ⟨k,0,none⟩=false∧w.frozen? ⟨k,1,none⟩=false∧w.frozen? ⟨k,2,none⟩=false)∧k<w.heap.size:=⟨⟨h.k 0,h.k 1,h.k 2⟩,⟨h.free 0,h.free 1,h.free 2⟩,h.lt⟩
set_option maxHeartbeats 2000000 in
theorem same_v {x y:M.Vl}{u v:Value}{w:World}(h:IsVl w x u)(k:IsVl w y v): Calls Tryz.prog 193 #[u,v] w (GivesB w (M.vSame x y)):=by
 obtain⟨s,g,ls⟩:=x;obtain⟨s',g',ls'⟩:=y;obtain⟨N,nn,nc,rfl,hn⟩:=h;obtain⟨N',nn',nc',rfl,hn'⟩:=k;obtain⟨q,hq⟩:∃q,decide (M.zv g ls=M.zv g' ls')=q:=⟨_,rfl⟩;have HZ:=hid (show M.vSame (s,g,ls) (s',g',ls')=(decide (s=s')&&q) by rw[←hq];rfl);have HS:=hid (show ∀w',Ext w w'→Calls Tryz.prog 227 #[.agg #[.bool g,.slice N nn nc],.agg #[.bool g',.slice N' nn' nc']] w' (GivesB w' q) from fun w' e=>same_w (worth_tm (g:=g) (hn.up e)) (worth_tm (g:=g') (hn'.up e)) hq);rw[HZ.out];clear hq hn hn' HZ;show Calls Tryz.prog 193 #[vv s g N nn nc,vv s' g' N' nn' nc'] w _;have hb:=(Box.new w #[.int .i64 s,.bool g,.slice N nn nc] 45).alloc (.cells #[.int .i64 s',.bool g',.slice N' nn' nc'] 45);have hb':=Box.at_ (w:=w.alloc (.cells #[.int .i64 s,.bool g,.slice N nn nc] 45)) (g:=w.heap.size+1) #[.int .i64 s',.bool g',.slice N' nn' nc'] 45 (by simp);obtain⟨⟨c0,c1,c2⟩,-,-⟩:=box3v hb;obtain⟨⟨d0,d1,d2⟩,-,-⟩:=box3v hb';clear hb hb'
 by_cases hs:s=s'
 ·subst hs;have hbb:(s==s)=true:=by simp
  rw[show decide (s=s)=true by simp];go_enter Tryz.func193,Tryz.ntmps193
  go_wp2_with fail
  refine(HS.out _ (alloc_two w _ _)).mono ?_;rintro e w1 ⟨rfl,hx⟩;have E:=hid hx;clear hx c0 c1 c2 d0 d1 d2 HS;go_wp2;go_ret;exact⟨by rw[Bool.true_and];rfl,(alloc_two w _ _).trans E.out⟩
 ·have hbb:(s==s')=false:=by simpa using hs
  rw[show decide (s=s')=false by simpa using hs];clear HS hs;go_enter Tryz.func193,Tryz.ntmps193
  go_wp2;go_ret;exact⟨rfl,alloc_two w _ _⟩
theorem gpv_mono {p q:Nat→Prop}[DecidablePred p][DecidablePred q]{w w':World}(hs:w.heap.size≤w'.heap.size)(h:∀k,k<w.heap.size→p k→q k∧w'.heap[k]?=w.heap[k]?): Sub (gp p w) (gp q w'):=by
 refine⟨by rw[gp_size,gp_size];exact hs,fun a v hc=>?_⟩;obtain⟨h1,h2⟩:=gp_cell.1 hc;obtain⟨h3,h4⟩:=h _ (World.block_lt_of_cell? w _ h2) h1;exact gp_cell.2 ⟨h3,by rw[←h2];exact World.cell?_of_block h4⟩
theorem vwp_at {P:Program}{code:Code}{Q:Exit→Act→World→Prop}{a:Act}{W:World}(X:World→Prop)(h:X W)(k:∀W,X W→code.wp P Q a W): code.wp P Q a W:=k W h
abbrev put3v (w:World)(k:Nat)(x0 x1 x2:Value): World:=((w.setCell ⟨k,0,none⟩ x0).setCell ⟨k,1,none⟩ x1).setCell ⟨k,2,none⟩ x2
theorem put3v_ext {w w1:World}{k:Nat}{x0 x1 x2:Value}(e:Ext w w1)(hk:w.heap.size≤k): Ext w (put3v w1 k x0 x1 x2):=((e.set' hk _).set' hk _).set' hk _
theorem put3v_kept {w:World}{k:Nat}{x0 x1 x2:Value}: Kept [k] w (put3v w k x0 x1 x2):=((kept_setAt x0).trans (kept_setAt x1)).trans (kept_setAt x2)
theorem lnum_put3v {w:World}{k:Nat}{x0 x1 x2 v:Value}{l:List Nat}(h:LNum w v l)(hb:Box w k zero3v 45): LNum (put3v w k x0 x1 x2) v l:=keeps_store hb rfl put3v_kept _ _ h
set_option maxHeartbeats 1000000 in
theorem truth_v (b:Bool)(w:World): Calls Tryz.prog 124 #[.bool b] w (GivesV w (M.vTruth b)):=by
 have HB:=hid (Box.new w zero3v 45);have HO:=hid (show ∀w',Calls Tryz.prog 39 #[.int .i64 1] w' (GivesZ w' 1 3) from fun w'=>of_z (by decide) (by decide) w');cases b
 ·clear HO;obtain⟨⟨r0,r1,r2⟩,⟨f0,f1,f2⟩,hz⟩:=box3v HB.out;go_enter Tryz.func124,Tryz.ntmps124
  go_wp2_with fail
  refine bodyPost_ret (v:=vv 1 false none 0 0) (by simp[results,Tryz.results124,go_sem,r0,r1,r2,hz]) rfl ?_;exact⟨_,rfl,⟨none,0,0,rfl,LNum.nil _⟩,Ext.alloc w _⟩
 ·go_enter Tryz.func124,Tryz.ntmps124
  go_wp2_with fail
  refine(HO.out _).mono ?_;rintro e w1 ⟨v1,rfl,⟨A1,n1,c1,rfl,hn1,-⟩,hx⟩;have hb1:=HB.out.up hx;obtain⟨⟨r0,r1,r2⟩,⟨f0,f1,f2⟩,hz⟩:=box3v hb1;have HN:=hid hn1;have HB1:=hid hb1;have E:=hid ((Ext.alloc w _).trans hx);clear hn1 hx hb1 HO;go_wp2_with fail
  refine bodyPost_ret (v:=vv 1 false A1 n1 c1) (by simp[results,Tryz.results124,go_sem,r0,r1,r2,hz]) rfl ?_;exact⟨_,rfl,⟨A1,n1,c1,rfl,lnum_put3v HN.out HB1.out⟩,put3v_ext E.out (Nat.le_refl _)⟩
def GivesVN (w:World)(x:M.Vl)(e:Ending)(w':World): Prop:=∃v,e=.returned v∧IsVl (gp (fun b=>w.heap.size≤b) w') x v∧Ext w w'
abbrev zero2i:Array Value:=#[.bool false,.slice none 0 0]
theorem box2i {w:World}{k:Nat}{x0 x1:Value}{T:TypeId}(h:Box w k #[x0,x1] T): (w.cell? ⟨k,0,none⟩=some x0∧w.cell? ⟨k,1,none⟩=some x1)∧(w.frozen? ⟨k,0,none⟩=false∧w.frozen? ⟨k,1,none⟩=false)∧k<w.heap.size:=⟨⟨h.k 0,h.k 1⟩,⟨h.free 0,h.free 1⟩,h.lt⟩
abbrev put2i (w:World)(k:Nat)(x0 x1:Value): World:=(w.setCell ⟨k,0,none⟩ x0).setCell ⟨k,1,none⟩ x1
theorem put2i_ext {w w1:World}{k:Nat}{x0 x1:Value}(e:Ext w w1)(hk:w.heap.size≤k): Ext w (put2i w1 k x0 x1):=(e.set' hk _).set' hk _
theorem put2i_kept {w:World}{k:Nat}{x0 x1:Value}: Kept [k] w (put2i w k x0 x1):=(kept_setAt x0).trans (kept_setAt x1)
def GivesIN (w:World)(g:Bool)(ls:List Nat)(e:Ending)(w':World): Prop:=∃N nn nc,e=.returned (.agg #[.bool g,.slice N nn nc])∧LNum (gp (fun b=>w.heap.size≤b) w') (.slice N nn nc) ls∧Ext w w'
set_option maxHeartbeats 2000000 in
theorem ownI_v {g:Bool}{ls:List Nat}{N:Option Addr}{nn nc:Nat}{w:World}(hn:LNum w (.slice N nn nc) ls)(hl:ls.length≤2000000): Calls Tryz.prog 97 #[.agg #[.bool g,.slice N nn nc]] w (GivesIN w g ls):=by
 have HN:=hid hn;have HL:=hid hl;clear hn hl;go_enter Tryz.func97,Tryz.ntmps97
 go_upto_region 1 with (fail)
 refine vwp_at (fun W=>Box W w.heap.size #[.bool g,.slice N nn nc] 24∧Box W (w.heap.size+1) zero2i 24∧Ext w W) ⟨(Box.new w _ _).alloc _,Box.at_ (w:=w.alloc (.cells #[.bool g,.slice N nn nc] 24)) (g:=w.heap.size+1) zero2i 24 (by simp),alloc_two w _ _⟩ ?_;intro W ⟨hb0,hb1,he⟩;obtain⟨k,hk⟩:∃k,w.heap.size=k:=⟨_,rfl⟩;have HW:=hid hk;rw[hk] at hb0 hb1 ⊢;have HB:=hid hb0;have HR:=hid hb1;have E:=hid he;clear hb0 hb1 he hk;refine wp_region_S [(0,0),(1,0),(2,1),(3,0),(4,4)] fun wd2 hb=>?_;replace E:=hid (E.out.trans hb);replace HB:=hid (HB.out.up hb);replace HR:=hid (HR.out.up hb);have hR0:=HR.out.lt;clear hb;refine WE.p 3 (.pointer (some ⟨k,1,none⟩)) ?_;simp only[pX];refine WE.q 4 (.slice N nn nc) rfl (fun w' hk=>by have ce:=(HB.out.up hk).k 1;go_simp) ?_;simp only[pX];obtain⟨vN,w4,hrun,hOw,hE4⟩:=appU_nil (HN.out.up E.out) HL.out 22;refine WE.act (d:=some 5) rfl rfl (by rfl) (kexec_app (.const (.slice none 0 0)) (.tmp 4) rfl rfl rfl hrun) hE4 ?_;obtain⟨N1,nn1,nc1,rfl⟩:∃N1 nn1 nc1,vN=.slice N1 nn1 nc1:=by
  obtain⟨A1,c1,h1,-,-⟩:=kshape hOw.1;exact⟨A1,_,c1,h1⟩
 replace E:=hid (E.out.trans hE4);replace HR:=hid (HR.out.up hE4);replace HB:=hid (HB.out.up hE4);have HNW:=hid (show LNum (gp (fun b=>k+2≤b) w4) (.slice N1 nn1 nc1) ls from own_ghost hOw fun b h1 h2=>by show k+2≤b;omega);clear hrun hOw hE4 hR0;simp only[pX];refine WE.p 6 (.pointer (some ⟨k,1,none⟩)) ?_;simp only[pX];have hc2:=HB.out.k 1;have hf2:=HB.out.free 1;have hlt5:=HB.out.lt;refine WE.store (w':=w4.setCell ⟨k,1,none⟩ (.slice N1 nn1 nc1)) rfl rfl (by rfl) (by go_simp) (by simp) ?_;refine WE.done ?_;obtain⟨W,hW⟩:∃W,W=w4.setCell ⟨k,1,none⟩ (.slice N1 nn1 nc1):=⟨_,rfl⟩;rw[←hW];replace HR:=hid (show Box W (k+1) zero2i 24 by rw[hW];exact HR.out.far (show k+1≠k by omega) _);replace HB:=hid (show Box W k #[.bool g,.slice N1 nn1 nc1] 24 by rw[hW];exact HB.out.setAt 1 _);replace E:=hid (show Ext w W by rw[hW];exact E.out.set' (by show w.heap.size≤k;rw[HW.out];exact Nat.le_refl _) _);replace HNW:=hid (show LNum (gp (fun b=>k+2≤b) W) (.slice N1 nn1 nc1) ls by
  rw[hW];exact HNW.out.sub (gpv_mono (by simp) fun b hb hp=>⟨hp,Below.heap_setCell _ _ _ _ (show b≠k by have:k+2≤b:=hp;omega)⟩))
 clear hW hc2 hf2 hlt5;obtain⟨⟨r0,r1⟩,⟨f0,f1⟩,hz⟩:=box2i HR.out;obtain⟨⟨c0,c1⟩,-,hz0⟩:=box2i HB.out;go_wp2_with fail
 refine bodyPost_ret (v:=.agg #[.bool g,.slice N1 nn1 nc1]) (by simp[results,Tryz.results97,go_sem,r0,r1,hz]) rfl ?_;refine⟨N1,nn1,nc1,rfl,?_,put2i_ext E.out (by rw[HW.out];omega)⟩;exact HNW.out.sub (gpv_mono (by simp) fun b hb hp=>⟨by rw[HW.out];have:k+2≤b:=hp;show k≤b;omega,put2i_kept.2 b hb (by have:k+2≤b:=hp;simp;omega)⟩)
set_option maxHeartbeats 2000000 in
theorem own_v {x:M.Vl}{v:Value}{w:World}(h:IsVl w x v)(hl:x.2.2.length≤2000000): Calls Tryz.prog 119 #[v] w (GivesVN w x):=by
 obtain⟨s,g,ls⟩:=x;obtain⟨N,nn,nc,rfl,hn⟩:=h;replace hn:LNum w (.slice N nn nc) ls:=hn;replace hl:ls.length≤2000000:=hl;show Calls Tryz.prog 119 #[vv s g N nn nc] w _;have HC:=hid (show ∀w',Ext w w'→Calls Tryz.prog 97 #[.agg #[.bool g,.slice N nn nc]] w' (GivesIN w' g ls) from fun w' e=>ownI_v (LNum.up hn e) hl);clear hn hl;go_enter Tryz.func119,Tryz.ntmps119
 go_upto_region 1 with (fail)
 refine vwp_at (fun W=>Box W w.heap.size #[.int .i64 s,.bool g,.slice N nn nc] 45∧Box W (w.heap.size+1) zero3v 45∧Ext w W) ⟨(Box.new w _ _).alloc _,Box.at_ (w:=w.alloc (.cells #[.int .i64 s,.bool g,.slice N nn nc] 45)) (g:=w.heap.size+1) zero3v 45 (by simp),alloc_two w _ _⟩ ?_;intro W ⟨hb0,hb1,he⟩;obtain⟨k,hk⟩:∃k,w.heap.size=k:=⟨_,rfl⟩;have HW:=hid hk;rw[hk] at hb0 hb1 ⊢;have HB:=hid hb0;have HR:=hid hb1;have E:=hid he;clear hb0 hb1 he hk;refine wp_region_D [(0,0),(1,0),(2,0),(3,0),(4,1),(5,0),(6,4)] fun wd2 hb=>?_;replace E:=hid (E.out.trans hb);replace HB:=hid (HB.out.up hb);replace HR:=hid (HR.out.up hb);have HSZ:=hid HR.out.lt;clear hb;refine WE.p 3 (.pointer (some ⟨k,0,none⟩)) ?_;simp only[pX];refine WE.q 4 (.int .i64 s) rfl (fun w' hk=>by have ce:=(HB.out.up hk).k 0;go_simp) ?_;simp only[pX];refine WE.p 5 (.pointer (some ⟨k,1,none⟩)) ?_;simp only[pX];refine WE.q 6 (.agg #[.bool g,.slice N nn nc]) rfl (fun w' hk=>by have c1:=(HB.out.up hk).k 1;have c2:=(HB.out.up hk).k 2;go_simp) ?_;simp only[pX];refine WE.c 7 ((HC.out _ E.out).mono ?_);rintro e w4 ⟨N1,nn1,nc1,rfl,hn1,hb⟩;refine⟨_,rfl,hb,?_⟩;replace E:=hid (E.out.trans hb);replace HR:=hid (HR.out.up hb);have HNW:=hid (show LNum (gp (fun b=>k+2≤b) w4) (.slice N1 nn1 nc1) ls from hn1.sub (gpv_mono (Nat.le_refl _) fun b _ hp=>⟨by have h1:=HSZ.out;have h2:wd2.heap.size≤b:=hp;show k+2≤b;omega,rfl⟩));clear hb hn1 HC HB;simp only[pX];refine WE.p 8 (vv s g N1 nn1 nc1) ?_;simp only[pX];obtain⟨⟨r0,r1,r2⟩,⟨f0,f1,f2⟩,hz⟩:=box3v HR.out;refine WE.store (w':=put3v w4 (k+1) (.int .i64 s) (.bool g) (.slice N1 nn1 nc1)) rfl rfl (by rfl) (by go_simp) (by simp) ?_;refine WE.done ?_;have hP:=put3v_ext (x0:=.int .i64 s) (x1:=.bool g) (x2:=.slice N1 nn1 nc1) E.out (show w.heap.size≤k+1 by rw[HW.out];omega);have hI3:LNum (gp (fun b=>w.heap.size≤b) (put3v w4 (k+1) (.int .i64 s) (.bool g) (.slice N1 nn1 nc1))) (.slice N1 nn1 nc1) ls:=HNW.out.sub (gpv_mono (by simp) fun b hb hp=>⟨by rw[HW.out];have:k+2≤b:=hp;show k≤b;omega,put3v_kept.2 b hb (by have:k+2≤b:=hp;simp;omega)⟩);have hB2:Box (put3v w4 (k+1) (.int .i64 s) (.bool g) (.slice N1 nn1 nc1)) (k+1) #[.int .i64 s,.bool g,.slice N1 nn1 nc1] 45:=((HR.out.setAt 0 _).setAt 1 _).setAt 2 _;have HP:=hid hP;have HI3:=hid hI3;obtain⟨W3,hW3⟩:∃W3,W3=put3v w4 (k+1) (.int .i64 s) (.bool g) (.slice N1 nn1 nc1):=⟨_,rfl⟩;rw[←hW3] at HP HI3 hB2 ⊢;clear hW3 r0 r1 r2 f0 f1 f2 hz hP hI3;obtain⟨⟨r0,r1,r2⟩,-,hz⟩:=box3v hB2;go_wp2_with fail
 refine bodyPost_ret (v:=vv s g N1 nn1 nc1) (by simp[results,Tryz.results119,go_sem,r0,r1,r2,hz]) rfl ?_;exact⟨_,rfl,⟨N1,nn1,nc1,rfl,HI3.out⟩,HP.out⟩
def M.mComp (op z:Int): Bool:=if op=19 then decide (z≤0) else if op=20 then decide (z<0) else if op=21 then decide (0≤z) else decide (0<z)
theorem VList.at0 {w:World}{A:Option Addr}{n c:Nat}{l:List M.Vl}{x:M.Vl}(h:VList w (.slice A n c) l)(hx:l[0]?=some x): ∃ad N nn nc,A=some ad∧(w.cell? ad=some (.int .i64 x.1)∧w.cell? ⟨ad.block,ad.off+1,none⟩=some (.bool x.2.1)∧w.cell? ⟨ad.block,ad.off+2,none⟩=some (.slice N nn nc))∧LNum w (.slice N nn nc) x.2.2:=by
 obtain⟨ad,N,nn,nc,rfl,c0,c1,c2,hv⟩:=h.get hx;rw[Nat.zero_mul,Addr.add_zero'] at c0 c1 c2;exact⟨ad,N,nn,nc,rfl,⟨c0,c1,c2⟩,hv⟩
theorem VList.at1 {w:World}{ad:Addr}{n c:Nat}{l:List M.Vl}{x:M.Vl}(h:VList w (.slice (some ad) n c) l){k m:Nat}(hm:k*3=m)(hk0:0<k)(hx:l[k]?=some x): ∃N nn nc,(w.cell? ⟨ad.block,ad.off+m,none⟩=some (.int .i64 x.1)∧w.cell? ⟨ad.block,ad.off+m+1,none⟩=some (.bool x.2.1)∧w.cell? ⟨ad.block,ad.off+m+2,none⟩=some (.slice N nn nc))∧LNum w (.slice N nn nc) x.2.2:=by
 obtain⟨ad',N,nn,nc,e,c0,c1,c2,hv⟩:=h.get hx;injection e with e;subst e;obtain⟨j,rfl⟩:∃j,m=j+1:=⟨m-1,by omega⟩;rw[hm] at c0 c1 c2;exact⟨N,nn,nc,⟨c0,c1,c2⟩,hv⟩
set_option maxHeartbeats 4000000 in
theorem sorts_v {ks:List M.Vl}{v:Value}{w:World}(h:VList w v ks)(hlen:ks.length≤1000000): Calls Tryz.prog 159 #[v] w (GivesIs w (ks.map (·.1))):=by
 obtain⟨A,n,c,rfl⟩:=h.shape;obtain⟨hn,hl2,hl3⟩:=h.count;rw[←hn] at hlen;have HK:=hid h;have HN:=hid hn.symm;clear h hn;go_enter Tryz.func159,Tryz.ntmps159
 go_wp2_with fail
 go_loopw[3,8] (fun x i wr=>∃k:Nat,k≤n∧i=.int .i64 k∧Hid (OwnI w.heap.size wr x ((ks.take k).map (·.1))∧Ext w wr)) (fun _ i _=>n-(intOf i).toNat)
 case atStart=>exact⟨0,Nat.zero_le _,rfl,OwnI.nil _ _,Ext.refl _⟩
 case round=>
  obtain⟨k,hk,rfl,hR⟩:=hrel;have E:=hid hR.out.2;obtain⟨L,hL⟩:∃L,(ks.take k).map (·.1)=L:=⟨_,rfl⟩;have hO:=hR.out.1;rw[hL] at hO;have HL:=hid hL;have HLK:=hid (show L.length=k by rw[←HL.out,List.length_map,List.length_take,HN.out];omega);obtain⟨IA,ic,rfl,hi1,hi2⟩:=kshape hO;obtain⟨m,hm⟩:∃m,L.length=m:=⟨_,rfl⟩;rw[hm] at hO hi1 ⊢;have HO:=hid hO;clear hR hL hO;rcases Nat.lt_or_ge k n with hlt|hge
  ·have hlt':(k:Int)<(n:Int):=by omega
   obtain⟨x,hx⟩:∃x,ks[k]?=some x:=⟨_,List.getElem?_eq_getElem (by rw[HN.out];exact hlt)⟩;obtain⟨ad,N',nn',nc',rfl,c0,c1,c2,hv⟩:=(HK.out.up E.out).get hx;replace c0:wr.cell? (ad.add (k*3))=some (.int .i64 x.1):=c0;replace c1:wr.cell? ⟨(ad.add (k*3)).block,(ad.add (k*3)).off+1,none⟩=some (.bool x.2.1):=c1;replace c2:wr.cell? ⟨(ad.add (k*3)).block,(ad.add (k*3)).off+2,none⟩=some (.slice N' nn' nc'):=c2;have HU:=hid hx;have hlen9:=hid (show L.length+1≤1000000000 by have:=HLK.out;omega);clear hx hv;go_wp2_with (at_builtin;refine wpList_appI rfl (.tmp 12) (.tmp 15) rfl (base:=w.heap.size) (l:=L) (y:=x.1) (gL:=wr.heap.size+1) (tL:=3) rfl rfl ?own ?box hlen9.out ?base ?_)
   case own=>exact(HO.out.frame fun b _ hb=>(Ext.alloc wr _).block b hb).frame fun b _ hb=>(Ext.alloc (wr.alloc _) _).block b hb
   case box=>exact Box.at_ (w:=wr.alloc _) _ _ (by simp)
   case base=>have:=E.out.size;simp;omega
   intro v' w5 hO5 hB5;have HO5:=hid hO5;have E5:=hid (show Ext w w5 from Below.trans (B:=w.heap.size) ((E.out.alloc' _).alloc' _) hB5);clear hO5 hB5;go_wp2_with fail
   go_roundw
   case rel=>exact⟨k+1,by omega,by simp,by rw[List.take_add_one,HU.out,List.map_append,HL.out];exact HO5.out,E5.out⟩
   case measure=>simp[intOf];omega
  ·obtain rfl:k=n:=by omega
   go_wp2;go_ret;refine⟨_,rfl,?_,E.out⟩;have h1:=HL.out;rw[←HN.out,List.take_length] at h1;rw[h1];have h2:=HO.out;rw[←h1] at h2 ⊢;exact h2
end Go.Proofs.YtoenjbkmiphhoaaGreatDoor.Q
