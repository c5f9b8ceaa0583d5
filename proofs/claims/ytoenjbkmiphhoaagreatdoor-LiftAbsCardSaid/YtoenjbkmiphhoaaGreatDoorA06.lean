/-
  Contracts of the reference's functions on rows of limbs (package mullionref1): the same numbers.
-/
import Derived.Test.YtoenjbkmiphhoaaGreatDoorA02
import Derived.Deep.CutRange
import Derived.Deep.CutBlock
import Derived.Test.YtoenjbkmiphhoaaGreatDoorA03
import Derived.Deep.Cut
import Derived.Test.YtoenjbkmiphhoaaGreatDoorA05
namespace Go.Proofs.YtoenjbkmiphhoaaGreatDoor
set_option linter.unusedSimpArgs false
set_option linter.unusedVariables false
open Go.RowKit
namespace M
/- the reference's sums and products, by value -/
theorem val_snoc (l:List Nat)(x:Nat): val (l++[x])=val l+1000000000^l.length*x:=by rw[val_append];simp[val]
end M
theorem rIs_any (w:World)(v:Value)(l:List Nat){C:Nat}(hv:Num w C v l):
 Calls Tryz.prog 91 #[v] w fun e w'=>e=.returned (.bool (M.isNat l))∧w=w':=by
 obtain⟨A,n,c,rfl,hn,hc,hm,hs,hr⟩:=hv;have hb:n≤9223372036854775807:=by unfold maxLen at hm;omega
 have HR:=hid hr;have HN:=hid hn;have HS:=hid hs;clear hr hn hs hm hc;go_enter Tryz.func91,Tryz.ntmps91
 go_wp2;go_loop [3] (fun i=>∃k:Nat,k≤n∧i=.int .i64 k∧M.small (l.take k)=true) (fun i=>n-(intOf i).toNat)
 case atStart=>exact⟨0,Nat.zero_le _,rfl,rfl⟩
 case round=>
  obtain⟨k,hk,rfl,hsm⟩:=hrel;have HSM:=hid hsm;clear hsm
  by_cases hlt:k<n
  ·obtain⟨ad,x,rfl,_,HX,hcell⟩:=HR.out.get (k:=k) (by rw[←HN.out];exact hlt)
   by_cases hx:(x:Int)<1000000000
   ·have hx1:=dec_lt hx;have HX2:=hid hx;clear hx;go_wp2;go_round
    case rel=>exact⟨k+1,by omega,by go_num,M.small_snoc HX.out HSM.out (by have:=HX2.out;omega)⟩
    case measure=>simp[intOf];all_goals omega
   ·have hx1:(1000000000:Int)≤x:=by omega
    go_wp2;go_ret;exact⟨ret_bool (M.isNat_big HX.out (by omega)).symm,rfl⟩
  ·by_cases h0:n=0
   ·subst h0;go_wp2;go_ret;have:l=[]:=List.eq_nil_of_length_eq_zero HN.out.symm;exact⟨by subst this;rfl,rfl⟩
   ·obtain⟨ad,x,rfl,_,HX,hcell⟩:=HR.out.get (k:=n-1) (by rw[←HN.out];omega);have h1:1≤n:=by omega
    go_wp2;go_ret;have e:M.isNat l=decide (x≠0):=M.isNat_end (by have:=HSM.out;rwa [List.take_of_length_le (by rw[←HN.out];omega)] at this) (by rw[←HN.out];exact HX.out);refine⟨?_,rfl⟩;rw[e];have:¬(n:Int)=0:=by omega
    congr 2
    by_cases hx:x=0<;>simp[hx,this]
    all_goals omega
theorem rNat_any (w:World)(v:Value)(l:List Nat){C:Nat}(hv:Num w C v l):
 Calls Tryz.prog 115 #[v] w fun e w'=>(∃v',e=.returned v'∧Num w C v' (M.nat l))∧w=w':=by
 have HV:=hid hv;have HI:=hid (rIs_any w v l hv);clear hv
 by_cases h:M.isNat l=true
 ·have H:=hid h;go_enter Tryz.func115,Tryz.ntmps115
  go_wp2_with fail
  refine HI.out.mono ?_;rintro e w' ⟨rfl,rfl⟩;go_wp2;go_ret;exact⟨⟨_,rfl,by rw[M.nat,if_pos H.out];exact HV.out⟩,rfl⟩
 ·have h':M.isNat l=false:=by simpa using h
  have H:=hid h';clear h;go_enter Tryz.func115,Tryz.ntmps115
  go_wp2_with fail
  refine HI.out.mono ?_;rintro e w' ⟨rfl,rfl⟩;go_wp2;go_ret;exact⟨⟨_,rfl,by rw[M.nat,if_neg (by rw[H.out];simp)];exact Num.nil _ _⟩,rfl⟩
theorem rCmp_any (w:World)(u v:Value)(l m:List Nat){C D:Nat}(hu:Num w C u l)(hv:Num w D v m):
 Calls Tryz.prog 167 #[u,v] w fun e w'=>e=.returned (.int .i64 (M.cmp (M.nv l) (M.nv m)))∧∃k,w'=w.drewN k:=by
 have HU:=hid hu;have HV:=hid hv;clear hu hv;go_enter Tryz.func167,Tryz.ntmps167
 go_wp2_with fail
 refine(rNat_any w u l HU.out).mono ?_;rintro e w' ⟨⟨u',rfl,hu'⟩,rfl⟩;have HU':=hid hu';clear hu';go_wp2_with fail
 refine(rNat_any w v m HV.out).mono ?_;rintro e w' ⟨⟨v',rfl,hv'⟩,rfl⟩;have hu':=HU'.out;obtain⟨A,n,c,rfl,hn,hc,hm0,hs,hr⟩:=hu';obtain⟨A',n',c',rfl,hn',hc',hm',hs',hr'⟩:=hv';have hb:n≤9223372036854775807:=by unfold maxLen at hm0;omega
 have hb':n'≤9223372036854775807:=by unfold maxLen at hm';omega
 have HR:=hid hr;have HR':=hid hr';have HN:=hid hn;have HN':=hid hn';clear hr hn hs hm0 hr' hn' hs' hm' hc hc'
 by_cases hnn:n=n'
 ·subst hnn;go_wp2;go_loopw[7] (fun i wr=>∃(k p:Nat) (z:Int),k≤n∧z=(k:Int)-1∧i=.int .i64 z∧wr=w.drewN p∧(M.nat l).drop k=(M.nat m).drop k) (fun i _=>(intOf i+1).toNat)
  case atStart=>exact⟨n,0,_,Nat.le_refl _,rfl,rfl,rfl,by rw[List.drop_eq_nil_of_le (by rw[←HN.out];exact Nat.le_refl _),List.drop_eq_nil_of_le (by rw[←HN'.out];exact Nat.le_refl _)]⟩
  case round=>
   obtain⟨k,p,z,hk,hz,rfl,rfl,he⟩:=hrel;have HE:=hid he;clear he;rcases k with _|k
   ·obtain rfl:z=-1:=by omega
    clear hz;go_wp2;go_ret;refine⟨ret_int (M.cmp_zero.2 ?_).symm,p,rfl⟩;have:=HE.out;simp only[List.drop_zero] at this;rw[←M.val_nat l,←M.val_nat m,this]
   ·obtain rfl:z=(k:Int):=by omega
    clear hz;have hlt:k<n:=by omega
    obtain⟨ad,x,rfl,_,HX,hcell⟩:=HR.out.get (k:=k) (by rw[←HN.out];exact hlt);obtain⟨ad',x',rfl,_,HX',hcell'⟩:=HR'.out.get (k:=k) (by rw[←HN'.out];exact hlt);have HLT:=fun (h:x<x')=>M.val_lt_at' (M.small_nat l) HX.out HX'.out HE.out h;have HGT:=fun (h:x'<x)=>M.val_lt_at' (M.small_nat m) HX'.out HX.out HE.out.symm h;rw[M.val_nat,M.val_nat] at HLT HGT;have HL:=hid HLT;have HG:=hid HGT;clear HLT HGT;rcases (by omega:x=x'∨x<x'∨x'<x) with hx|hx|hx
    ·subst hx;go_wp2;go_quiet (fail)
     go_wp2;go_quiet (fail)
     go_wp2;go_roundw
     case rel=>exact⟨k,_,_,by omega,rfl,rfl,rfl,M.drop_same HX.out HX'.out HE.out⟩
     case measure=>simp[intOf];all_goals omega
    ·have HQ:=hid (M.cmp_lt (HL.out hx));go_wp2;go_quiet (fail)
     go_wp2;go_ret;exact⟨ret_int HQ.out.symm,_,World.drewN_drewN _ _ _⟩
    ·have HQ:=hid (M.cmp_gt (HG.out hx));have hd:decide (x<x')=false:=by simp;omega
     go_wp2;go_quiet (fail)
     go_wp2;go_quiet (fail)
     go_wp2;go_ret;exact⟨ret_int HQ.out.symm,drew3 _ _ _ _⟩
 ·have HX:=hid hnn;have HC:=hid (M.cmp_len (M.isNat_nat l) (M.isNat_nat m) (by rw[←HN.out,←HN'.out];exact hnn));rcases (by omega:n<n'∨n'<n) with h|h
  ·have H:=hid (M.cmp_lt h);clear hnn;go_wp2;go_ret;refine⟨ret_int ?_,0,rfl⟩;have h1:=HC.out;rw[←HN.out,←HN'.out,H.out,M.val_nat,M.val_nat] at h1;exact h1
  ·have H:=hid (M.cmp_gt h);have hd:decide (n<n')=false:=by simp;omega
   clear hnn;go_wp2;go_ret;refine⟨ret_int ?_,0,rfl⟩;have h1:=HC.out;rw[←HN.out,←HN'.out,H.out,M.val_nat,M.val_nat] at h1;exact h1
set_option linter.unusedSimpArgs false
set_option linter.unusedVariables false
open Go.RowKit
theorem rcmp_n {w:World}{u v:Value}{a b j k:Nat}(hu:IsN w u a j)(hv:IsN w v b k){z:Int}(hz:M.cmp a b=z):
 Calls Tryz.prog 167 #[u,v] w fun e w'=>e=.returned (.int .i64 z)∧Ext w w':=by
 have h:=rCmp_any w u v _ _ hu.1 hv.1;rw[M.nv_limbs,M.nv_limbs,hz] at h;exact h.mono fun _ _ ⟨he,k,hk⟩=>⟨he,by subst hk;exact below_drewN (Below.refl _ _) k⟩
def CellAt (w:World)(p:Addr)(v:Value): Prop:=w.cell? p=some v
theorem CellAt.up {w w':World}{p:Addr}{v:Value}(h:CellAt w p v)(e:Ext w w'): CellAt w' p v:=by
 have hl:=World.block_lt_of_cell? w _ h;unfold CellAt at *;rw[←h];exact Below.cell e hl
def Fresh (B:Nat)(v:Value): Prop:=∃A n c,v=.slice A n c∧∀ad,A=some ad→B≤ad.block
theorem Num.away {w w':World}{g:Nat}{A:Option Addr}{n c:Nat}{l:List Nat}(h:Num w w.heap.size (.slice A n c) l)(hg:∀ad,A=some ad→ad.block≠g)(hk:Kept [g] w w'): Num w' w'.heap.size (.slice A n c) l:=by
 obtain⟨A',n',c',e,hn,hc,hm,hs,hr⟩:=h;injection e with e1 e2 e3;subst e1 e2 e3;refine⟨A,n,c,rfl,hn,hc,hm,hs,fun hne=>?_⟩;obtain⟨ad,e,hlt,hcell⟩:=hr hne;refine⟨ad,e,Nat.lt_of_lt_of_le hlt hk.1.size,fun i x hx=>?_⟩;rw[←hcell i x hx];exact World.cell?_of_block (by rw[addr_block];exact hk.2 ad.block hlt (by simpa using hg ad e))
theorem IsN.away {w w':World}{g:Nat}{A:Option Addr}{n c N k:Nat}(h:IsN w (.slice A n c) N k)(hg:∀ad,A=some ad→ad.block≠g)(hk:Kept [g] w w'): IsN w' (.slice A n c) N k:=⟨h.1.away hg hk,h.2⟩
theorem IsN.low {w:World}{A:Option Addr}{n c N k:Nat}(h:IsN w (.slice A n c) N k)(hN:N≠0): ∀ad,A=some ad→ad.block<w.heap.size:=by
 intro ad hA;obtain⟨A',n',c',e,_,_,_,_,hr⟩:=h.1;injection e with e1;subst e1;obtain⟨ad',e',hlt,_⟩:=hr (M.limbs_ne hN);rw[hA] at e';injection e' with e';subst e';exact hlt
open Go.RowKit
set_option linter.unusedSimpArgs false
set_option linter.unusedVariables false
set_option maxHeartbeats 1000000 in
theorem of_neg {n:Int}(hn:n<0)(h1:-9223372036854775808≤n)(h2:n≤9223372036854775807)(w:World):
 Calls Tryz.prog 39 #[.int .i64 n] w (GivesZ w n 3):=by
 obtain⟨m,hm⟩:∃m:Nat,m=n.natAbs:=⟨_,rfl⟩;have HM:=hid hm;have HN:=hid hn;have HB:=hid h1;have HB2:=hid h2;have hl:n<0:=hn;obtain⟨p,hp⟩:∃p:Int,IntKind.u64.wrap n=p:=⟨_,rfl⟩;have hq:IntKind.u64.wrap (-p)=(m:Int):=by rw[←hp,IntKind.wrap_u64,IntKind.wrap_u64];omega
 clear hm hn h1 h2;go_enter Tryz.func39,Tryz.ntmps39
 go_upto_region 1 with (fail)
 obtain⟨E,B1⟩:=open1 w #[.bool false,.slice none 0 0] 24;refine wp_region_S [(0,0),(1,0)] fun wd hb=>?_;replace E:=hid (E.out.trans hb);replace B1:=hid (B1.out.up hb);clear hb;refine WE.p 3 (.int .i64 n) ?_;refine WE.p 4 (.bool true) ?_;simp only[pX];refine WE.done ?_;go_upto_region 2 with (fail)
 refine wp_region_S [(0,0),(1,0),(2,0),(3,1),(4,0),(5,4)] fun wd hb=>?_;replace E:=hid (E.out.trans hb);replace B1:=hid (B1.out.up hb);clear hb;refine WE.p 5 (.int .i64 n) ?_;refine WE.p 6 (.int .u64 p) ?_;refine WE.p 7 (.int .u64 (m:Int)) ?_;refine WE.call (d:=some 8) rfl rfl (by rfl) (f:=72) (args:=#[(.int .u64 (m:Int))]) (by go_simp) ?_;refine(of_n m (by have:=HM.out;have:=HB.out;have:=HB2.out;omega) _).mono ?_;rintro e wn ⟨vx,rfl,hx,hb⟩;obtain⟨A1,n1,c1,rfl⟩:=hx.1.slice;refine⟨_,rfl,hb,?_⟩;replace E:=hid (E.out.trans hb);replace B1:=hid (B1.out.up hb);have R1:=hid hx;clear hb hx;refine WE.p 9 (.agg #[.bool true,.slice A1 n1 c1]) ?_;simp only[pX];refine WE.store2 (g:=(w.heap.size)) (x:=.bool true) (y:=.slice A1 n1 c1) (t:=24) rfl rfl (by rfl) (fun w hb=>?_) B1.out (by rfl) fun ws hk hs=>?_
 ·have c0:=hb.k 0;have f0:=hb.free 0;have c1:=hb.k 1;have f1:=hb.free 1;go_simp
 intro hbx;replace E:=hid (E.out.keptG hk (by simp));replace B1:=hid hbx;replace R1:=hid (R1.out.kz hs);clear hk hs hbx;refine WE.done ?_;have r0:=B1.out.cell (o:=0) (v:=.bool true) rfl;have r1:=B1.out.cell (o:=1) (v:=.slice A1 n1 c1) rfl;go_wp2;exact bodyPost_ret (v:=.agg #[.bool true,.slice A1 n1 c1]) (by simp[results,Tryz.results39,go_sem,r0,r1]) rfl ⟨_,rfl,IsZ.mk (by simpa using HN.out) (by rw[←HM.out];exact R1.out),E.out⟩
set_option maxHeartbeats 1000000 in
theorem of_pos {n:Int}(hn:0≤n)(h1:-9223372036854775808≤n)(h2:n≤9223372036854775807)(w:World):
 Calls Tryz.prog 39 #[.int .i64 n] w (GivesZ w n 3):=by
 obtain⟨m,hm⟩:∃m:Nat,m=n.natAbs:=⟨_,rfl⟩;have HM:=hid hm;have HN:=hid hn;have HB:=hid h1;have HB2:=hid h2;have hl:decide (n<0)=false:=by simpa using hn
 have hp:IntKind.u64.wrap n=(m:Int):=by rw[IntKind.wrap_u64];omega
 clear hm hn h1 h2;go_enter Tryz.func39,Tryz.ntmps39
 go_upto_region 1 with (fail)
 obtain⟨E,B1⟩:=open1 w #[.bool false,.slice none 0 0] 24;refine wp_region_S [(0,0),(1,0)] fun wd hb=>?_;replace E:=hid (E.out.trans hb);replace B1:=hid (B1.out.up hb);clear hb;refine WE.p 3 (.int .i64 n) ?_;refine WE.p 4 (.bool false) ?_;simp only[pX];refine WE.done ?_;go_upto_region 3 with (fail)
 refine wp_region_S [(0,0),(1,0),(2,1),(3,0),(4,4)] fun wd hb=>?_;replace E:=hid (E.out.trans hb);replace B1:=hid (B1.out.up hb);clear hb;refine WE.p 10 (.int .i64 n) ?_;refine WE.p 11 (.int .u64 (m:Int)) ?_;refine WE.call (d:=some 12) rfl rfl (by rfl) (f:=72) (args:=#[(.int .u64 (m:Int))]) (by go_simp) ?_;refine(of_n m (by have:=HM.out;have:=HB.out;have:=HB2.out;omega) _).mono ?_;rintro e wn ⟨vx,rfl,hx,hb⟩;obtain⟨A1,n1,c1,rfl⟩:=hx.1.slice;refine⟨_,rfl,hb,?_⟩;replace E:=hid (E.out.trans hb);replace B1:=hid (B1.out.up hb);have R1:=hid hx;clear hb hx;refine WE.p 13 (.agg #[.bool false,.slice A1 n1 c1]) ?_;simp only[pX];refine WE.store2 (g:=(w.heap.size)) (x:=.bool false) (y:=.slice A1 n1 c1) (t:=24) rfl rfl (by rfl) (fun w hb=>?_) B1.out (by rfl) fun ws hk hs=>?_
 ·have c0:=hb.k 0;have f0:=hb.free 0;have c1:=hb.k 1;have f1:=hb.free 1;go_simp
 intro hbx;replace E:=hid (E.out.keptG hk (by simp));replace B1:=hid hbx;replace R1:=hid (R1.out.kz hs);clear hk hs hbx;refine WE.done ?_;have r0:=B1.out.cell (o:=0) (v:=.bool false) rfl;have r1:=B1.out.cell (o:=1) (v:=.slice A1 n1 c1) rfl;go_wp2;exact bodyPost_ret (v:=.agg #[.bool false,.slice A1 n1 c1]) (by simp[results,Tryz.results39,go_sem,r0,r1]) rfl ⟨_,rfl,IsZ.mk (by simpa using HN.out) (by rw[←HM.out];exact R1.out),E.out⟩
theorem of_z {n:Int}(h1:-9223372036854775808≤n)(h2:n≤9223372036854775807)(w:World): Calls Tryz.prog 39 #[.int .i64 n] w (GivesZ w n 3):=by
 rcases (by omega:n<0∨0≤n) with h|h
 ·exact of_neg h h1 h2 w
 ·exact of_pos h h1 h2 w
namespace M
end M
theorem Worth.shape {w:World}{v:Value}{Z:Int}{k:Nat}(h:Worth w v Z k): ∃g A n c,v=.agg #[.bool g,.slice A n c]:=by
 obtain⟨g,A,n,c,_,e,_⟩:=h;exact⟨g,A,n,c,e⟩
theorem Worth.wide {w:World}{v:Value}{Z:Int}{j k:Nat}(h:Worth w v Z j)(hk:j≤k): Worth w v Z k:=by
 obtain⟨g,A,n,c,l,h1,h2,h3,h4⟩:=h;exact⟨g,A,n,c,l,h1,h2,Nat.le_trans h3 hk,h4⟩
end Go.Proofs.YtoenjbkmiphhoaaGreatDoor
