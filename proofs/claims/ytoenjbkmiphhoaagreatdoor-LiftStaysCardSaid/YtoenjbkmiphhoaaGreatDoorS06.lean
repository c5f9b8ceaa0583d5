/-
  Contracts of the reference's functions on rows of limbs (package mullionref1): the same numbers.
-/
import Derived.Test.YtoenjbkmiphhoaaGreatDoorS02
import Derived.Deep.CutRange
import Derived.Deep.CutBlock
import Derived.Test.YtoenjbkmiphhoaaGreatDoorS03
import Derived.Deep.Cut
import Derived.Test.YtoenjbkmiphhoaaGreatDoorS05
namespace Go.Proofs.YtoenjbkmiphhoaaGreatDoor
set_option linter.unusedSimpArgs false
set_option linter.unusedVariables false
open Go.RowKit
namespace M
/- the reference's sums and products, by value -/
theorem val_snoc (l:List Nat)(x:Nat): val (l++[x])=val l+1000000000^l.length*x:=by rw[val_append];simp[val]
end M
theorem rIs_any (w:World)(v:Value)(l:List Nat){C:Nat}(hv:Num w C v l):
 Calls Tryz.prog 91 #[v] w fun e w'=>e=.returned (.bool (M.isNat l))∧w=w':=by
 obtain⟨A,n,c,rfl,hn,hc,hm,hs,hr⟩:=hv
 have hb:n≤9223372036854775807:=by unfold maxLen at hm;omega
 have HR:=hid hr
 have HN:=hid hn
 have HS:=hid hs
 clear hr hn hs hm hc
 go_enter Tryz.func91,Tryz.ntmps91
 go_wp2
 go_loop [3] (fun i=>∃k:Nat,k≤n∧i=.int .i64 k∧M.small (l.take k)=true) (fun i=>n-(intOf i).toNat)
 case atStart=>exact⟨0,Nat.zero_le _,rfl,rfl⟩
 case round=>
  obtain⟨k,hk,rfl,hsm⟩:=hrel
  have HSM:=hid hsm
  clear hsm
  by_cases hlt:k<n
  ·obtain⟨ad,x,rfl,_,HX,hcell⟩:=HR.out.get (k:=k) (by rw[←HN.out];exact hlt)
   by_cases hx:(x:Int)<1000000000
   ·have hx1:=dec_lt hx
    have HX2:=hid hx
    clear hx
    go_wp2
    go_round
    case rel=>exact⟨k+1,by omega,by go_num,M.small_snoc HX.out HSM.out (by have:=HX2.out;omega)⟩
    case measure=>simp[intOf];all_goals omega
   ·have hx1:(1000000000:Int)≤x:=by omega
    go_wp2
    go_ret
    exact⟨ret_bool (M.isNat_big HX.out (by omega)).symm,rfl⟩
  ·by_cases h0:n=0
   ·subst h0
    go_wp2
    go_ret
    have:l=[]:=List.eq_nil_of_length_eq_zero HN.out.symm
    exact⟨by subst this;rfl,rfl⟩
   ·obtain⟨ad,x,rfl,_,HX,hcell⟩:=HR.out.get (k:=n-1) (by rw[←HN.out];omega)
    have h1:1≤n:=by omega
    go_wp2
    go_ret
    have e:M.isNat l=decide (x≠0):=M.isNat_end (by have:=HSM.out;rwa [List.take_of_length_le (by rw[←HN.out];omega)] at this) (by rw[←HN.out];exact HX.out)
    refine⟨?_,rfl⟩
    rw[e]
    have:¬(n:Int)=0:=by omega
    congr 2
    by_cases hx:x=0<;>simp[hx,this]
    all_goals omega
set_option linter.unusedSimpArgs false
set_option linter.unusedVariables false
open Go.RowKit
def CellAt (w:World)(p:Addr)(v:Value): Prop:=w.cell? p=some v
theorem CellAt.up {w w':World}{p:Addr}{v:Value}(h:CellAt w p v)(e:Ext w w'): CellAt w' p v:=by
 have hl:=World.block_lt_of_cell? w _ h
 unfold CellAt at *
 rw[←h];exact Below.cell e hl
def Fresh (B:Nat)(v:Value): Prop:=∃A n c,v=.slice A n c∧∀ad,A=some ad→B≤ad.block
theorem Num.away {w w':World}{g:Nat}{A:Option Addr}{n c:Nat}{l:List Nat}(h:Num w w.heap.size (.slice A n c) l)(hg:∀ad,A=some ad→ad.block≠g)(hk:Kept [g] w w'): Num w' w'.heap.size (.slice A n c) l:=by
 obtain⟨A',n',c',e,hn,hc,hm,hs,hr⟩:=h
 injection e with e1 e2 e3
 subst e1 e2 e3
 refine⟨A,n,c,rfl,hn,hc,hm,hs,fun hne=>?_⟩
 obtain⟨ad,e,hlt,hcell⟩:=hr hne
 refine⟨ad,e,Nat.lt_of_lt_of_le hlt hk.1.size,fun i x hx=>?_⟩
 rw[←hcell i x hx]
 exact World.cell?_of_block (by rw[addr_block];exact hk.2 ad.block hlt (by simpa using hg ad e))
theorem IsN.away {w w':World}{g:Nat}{A:Option Addr}{n c N k:Nat}(h:IsN w (.slice A n c) N k)(hg:∀ad,A=some ad→ad.block≠g)(hk:Kept [g] w w'): IsN w' (.slice A n c) N k:=⟨h.1.away hg hk,h.2⟩
theorem IsN.low {w:World}{A:Option Addr}{n c N k:Nat}(h:IsN w (.slice A n c) N k)(hN:N≠0): ∀ad,A=some ad→ad.block<w.heap.size:=by
 intro ad hA
 obtain⟨A',n',c',e,_,_,_,_,hr⟩:=h.1
 injection e with e1
 subst e1
 obtain⟨ad',e',hlt,_⟩:=hr (M.limbs_ne hN)
 rw[hA] at e';injection e' with e';subst e';exact hlt
open Go.RowKit
set_option linter.unusedSimpArgs false
set_option linter.unusedVariables false
set_option maxHeartbeats 1000000 in
theorem of_neg {n:Int}(hn:n<0)(h1:-9223372036854775808≤n)(h2:n≤9223372036854775807)(w:World):
 Calls Tryz.prog 39 #[.int .i64 n] w (GivesZ w n 3):=by
 obtain⟨m,hm⟩:∃m:Nat,m=n.natAbs:=⟨_,rfl⟩
 have HM:=hid hm
 have HN:=hid hn
 have HB:=hid h1
 have HB2:=hid h2
 have hl:n<0:=hn
 obtain⟨p,hp⟩:∃p:Int,IntKind.u64.wrap n=p:=⟨_,rfl⟩
 have hq:IntKind.u64.wrap (-p)=(m:Int):=by rw[←hp,IntKind.wrap_u64,IntKind.wrap_u64];omega
 clear hm hn h1 h2
 go_enter Tryz.func39,Tryz.ntmps39
 go_upto_region 1 with (fail)
 obtain⟨E,B1⟩:=open1 w #[.bool false,.slice none 0 0] 24
 refine wp_region_S [(0,0),(1,0)] fun wd hb=>?_
 replace E:=hid (E.out.trans hb)
 replace B1:=hid (B1.out.up hb)
 clear hb
 refine WE.p 3 (.int .i64 n) ?_
 refine WE.p 4 (.bool true) ?_
 simp only[pX]
 refine WE.done ?_
 go_upto_region 2 with (fail)
 refine wp_region_S [(0,0),(1,0),(2,0),(3,1),(4,0),(5,4)] fun wd hb=>?_
 replace E:=hid (E.out.trans hb)
 replace B1:=hid (B1.out.up hb)
 clear hb
 refine WE.p 5 (.int .i64 n) ?_
 refine WE.p 6 (.int .u64 p) ?_
 refine WE.p 7 (.int .u64 (m:Int)) ?_
 refine WE.call (d:=some 8) rfl rfl (by rfl) (f:=72) (args:=#[(.int .u64 (m:Int))]) (by go_simp) ?_
 refine(of_n m (by have:=HM.out;have:=HB.out;have:=HB2.out;omega) _).mono ?_
 rintro e wn ⟨vx,rfl,hx,hb⟩
 obtain⟨A1,n1,c1,rfl⟩:=hx.1.slice
 refine⟨_,rfl,hb,?_⟩
 replace E:=hid (E.out.trans hb)
 replace B1:=hid (B1.out.up hb)
 have R1:=hid hx
 clear hb hx
 refine WE.p 9 (.agg #[.bool true,.slice A1 n1 c1]) ?_
 simp only[pX]
 refine WE.store2 (g:=(w.heap.size)) (x:=.bool true) (y:=.slice A1 n1 c1) (t:=24) rfl rfl (by rfl) (fun w hb=>?_) B1.out (by rfl) fun ws hk hs=>?_
 ·have c0:=hb.k 0;have f0:=hb.free 0;have c1:=hb.k 1;have f1:=hb.free 1;go_simp
 intro hbx
 replace E:=hid (E.out.keptG hk (by simp))
 replace B1:=hid hbx
 replace R1:=hid (R1.out.kz hs)
 clear hk hs hbx
 refine WE.done ?_
 have r0:=B1.out.cell (o:=0) (v:=.bool true) rfl
 have r1:=B1.out.cell (o:=1) (v:=.slice A1 n1 c1) rfl
 go_wp2
 exact bodyPost_ret (v:=.agg #[.bool true,.slice A1 n1 c1]) (by simp[results,Tryz.results39,go_sem,r0,r1]) rfl ⟨_,rfl,IsZ.mk (by simpa using HN.out) (by rw[←HM.out];exact R1.out),E.out⟩
set_option maxHeartbeats 1000000 in
theorem of_pos {n:Int}(hn:0≤n)(h1:-9223372036854775808≤n)(h2:n≤9223372036854775807)(w:World):
 Calls Tryz.prog 39 #[.int .i64 n] w (GivesZ w n 3):=by
 obtain⟨m,hm⟩:∃m:Nat,m=n.natAbs:=⟨_,rfl⟩
 have HM:=hid hm
 have HN:=hid hn
 have HB:=hid h1
 have HB2:=hid h2
 have hl:decide (n<0)=false:=by simpa using hn
 have hp:IntKind.u64.wrap n=(m:Int):=by rw[IntKind.wrap_u64];omega
 clear hm hn h1 h2
 go_enter Tryz.func39,Tryz.ntmps39
 go_upto_region 1 with (fail)
 obtain⟨E,B1⟩:=open1 w #[.bool false,.slice none 0 0] 24
 refine wp_region_S [(0,0),(1,0)] fun wd hb=>?_
 replace E:=hid (E.out.trans hb)
 replace B1:=hid (B1.out.up hb)
 clear hb
 refine WE.p 3 (.int .i64 n) ?_
 refine WE.p 4 (.bool false) ?_
 simp only[pX]
 refine WE.done ?_
 go_upto_region 3 with (fail)
 refine wp_region_S [(0,0),(1,0),(2,1),(3,0),(4,4)] fun wd hb=>?_
 replace E:=hid (E.out.trans hb)
 replace B1:=hid (B1.out.up hb)
 clear hb
 refine WE.p 10 (.int .i64 n) ?_
 refine WE.p 11 (.int .u64 (m:Int)) ?_
 refine WE.call (d:=some 12) rfl rfl (by rfl) (f:=72) (args:=#[(.int .u64 (m:Int))]) (by go_simp) ?_
 refine(of_n m (by have:=HM.out;have:=HB.out;have:=HB2.out;omega) _).mono ?_
 rintro e wn ⟨vx,rfl,hx,hb⟩
 obtain⟨A1,n1,c1,rfl⟩:=hx.1.slice
 refine⟨_,rfl,hb,?_⟩
 replace E:=hid (E.out.trans hb)
 replace B1:=hid (B1.out.up hb)
 have R1:=hid hx
 clear hb hx
 refine WE.p 13 (.agg #[.bool false,.slice A1 n1 c1]) ?_
 simp only[pX]
 refine WE.store2 (g:=(w.heap.size)) (x:=.bool false) (y:=.slice A1 n1 c1) (t:=24) rfl rfl (by rfl) (fun w hb=>?_) B1.out (by rfl) fun ws hk hs=>?_
 ·have c0:=hb.k 0;have f0:=hb.free 0;have c1:=hb.k 1;have f1:=hb.free 1;go_simp
 intro hbx
 replace E:=hid (E.out.keptG hk (by simp))
 replace B1:=hid hbx
 replace R1:=hid (R1.out.kz hs)
 clear hk hs hbx
 refine WE.done ?_
 have r0:=B1.out.cell (o:=0) (v:=.bool false) rfl
 have r1:=B1.out.cell (o:=1) (v:=.slice A1 n1 c1) rfl
 go_wp2
 exact bodyPost_ret (v:=.agg #[.bool false,.slice A1 n1 c1]) (by simp[results,Tryz.results39,go_sem,r0,r1]) rfl ⟨_,rfl,IsZ.mk (by simpa using HN.out) (by rw[←HM.out];exact R1.out),E.out⟩
theorem of_z {n:Int}(h1:-9223372036854775808≤n)(h2:n≤9223372036854775807)(w:World): Calls Tryz.prog 39 #[.int .i64 n] w (GivesZ w n 3):=by
 rcases (by omega:n<0∨0≤n) with h|h
 ·exact of_neg h h1 h2 w
 ·exact of_pos h h1 h2 w
namespace M
end M
theorem Worth.shape {w:World}{v:Value}{Z:Int}{k:Nat}(h:Worth w v Z k): ∃g A n c,v=.agg #[.bool g,.slice A n c]:=by
 obtain⟨g,A,n,c,_,e,_⟩:=h
 exact⟨g,A,n,c,e⟩
theorem Worth.wide {w:World}{v:Value}{Z:Int}{j k:Nat}(h:Worth w v Z j)(hk:j≤k): Worth w v Z k:=by
 obtain⟨g,A,n,c,l,h1,h2,h3,h4⟩:=h;exact⟨g,A,n,c,l,h1,h2,Nat.le_trans h3 hk,h4⟩
end Go.Proofs.YtoenjbkmiphhoaaGreatDoor
