/-
  Contracts of package whole's face, over what values are worth.
-/
import Derived.Test.YtoenjbkmiphhoaaGreatDoorA06
import Derived.ProofKit
import Derived.OpenShut
import Derived.Carry
import Derived.Lib.SmallJoins
namespace Go.Proofs.YtoenjbkmiphhoaaGreatDoor
open Go.RowKit
set_option linter.unusedSimpArgs false
set_option linter.unusedVariables false
set_option maxHeartbeats 1000000 in
theorem sign_w {w:World}{u:Value}{Z:Int}{j:Nat}(hu:Worth w u Z j):
 Calls Tryz.prog 70 #[u] w (fun e w'=>e=.returned (.int .i64 Z.sign)∧Ext w w'):=by
 obtain⟨g,A,n,c,rfl⟩:=hu.shape;have R:=hid hu;clear hu;go_enter Tryz.func70,Tryz.ntmps70
 go_upto_region 1 with (fail)
 obtain⟨E,B1⟩:=open1 w #[.bool g,.slice A n c] 24;replace R:=hid (R.out.up E.out);refine wp_region_S [(0,0),(1,1),(2,0),(3,0),(4,0)] fun wd hb=>?_;replace E:=hid (E.out.trans hb);replace B1:=hid (B1.out.up hb);replace R:=hid (R.out.up hb);clear hb;refine WE.q 3 (.agg #[.bool g,.slice A n c]) rfl (fun w' hk=>by have c0:=(B1.out.up hk).k 0;have c1:=(B1.out.up hk).k 1;go_simp) ?_;simp only[pX];refine WE.call (d:=some 4) rfl rfl (by rfl) (f:=112) (args:=#[(.agg #[.bool g,.slice A n c])]) (by go_simp) ?_;refine(read_w R.out).mono ?_;rintro e wn ⟨vx,rfl,hx,hb⟩;obtain⟨s1,A1,n1,c1,rfl,hs1,hr1⟩:=hx.form;clear hx;refine⟨_,rfl,hb,?_⟩;replace E:=hid (E.out.trans hb);have HS1:=hid hs1;clear hb hs1 hr1;refine WE.q 5 (.agg #[.int .i64 s1]) rfl (fun w' hk=>by have hf:∀w,(Instr.field 138 (.agg #[.int .i64 s1,.slice A1 n1 c1]) 0).run Tryz.prog w=.ok (.agg #[.int .i64 s1]) w:=(fun w=>by kernel_rfl);go_simp) ?_;refine WE.q 6 (.int .i64 s1) rfl (fun w' hk=>by have hf:∀w,(Instr.field 136 (.agg #[.int .i64 s1]) 0).run Tryz.prog w=.ok (.int .i64 s1) w:=(fun w=>by kernel_rfl);go_simp) ?_;refine WE.p 2 (.int .i64 s1) ?_;simp only[pX];refine WE.done ?_;go_wp2;go_ret;exact⟨ret_int HS1.out,E.out⟩
set_option maxHeartbeats 1000000 in
theorem cmp_w {w:World}{u v:Value}{Z Y:Int}{j k:Nat}(hu:Worth w u Z j)(hv:Worth w v Y k){z:Int}(hz:M.zcmp Z Y=z):
 Calls Tryz.prog 203 #[u,v] w (fun e w'=>e=.returned (.int .i64 z)∧Ext w w'):=by
 obtain⟨g,A,n,c,rfl⟩:=hu.shape;obtain⟨g',A',n',c',rfl⟩:=hv.shape;have R:=hid hu;have R':=hid hv;clear hu hv;have HZ:=hid hz;clear hz;go_enter Tryz.func203,Tryz.ntmps203
 go_upto_region 1 with (fail)
 obtain⟨E,B1,B2⟩:=open2 w #[.bool g,.slice A n c] 24 #[.bool g',.slice A' n' c'] 24;replace R:=hid (R.out.up E.out);replace R':=hid (R'.out.up E.out);refine wp_region_D [(0,0),(2,0),(1,1),(3,1),(4,1),(5,0)] fun wd hb=>?_;replace E:=hid (E.out.trans hb);replace B1:=hid (B1.out.up hb);replace B2:=hid (B2.out.up hb);replace R:=hid (R.out.up hb);replace R':=hid (R'.out.up hb);clear hb;refine WE.q 5 (.agg #[.bool g,.slice A n c]) rfl (fun w' hk=>by have c0:=(B1.out.up hk).k 0;have c1:=(B1.out.up hk).k 1;go_simp) ?_;refine WE.q 7 (.agg #[.bool g',.slice A' n' c']) rfl (fun w' hk=>by have c0:=(B2.out.up hk).k 0;have c1:=(B2.out.up hk).k 1;go_simp) ?_;simp only[pX];refine WE.call (d:=some 6) rfl rfl (by rfl) (f:=112) (args:=#[(.agg #[.bool g,.slice A n c])]) (by go_simp) ?_;refine(read_w R.out).mono ?_;rintro e wn ⟨vx,rfl,hx,hb⟩;obtain⟨s1,A1,n1,c1,rfl,hs1,hr1⟩:=hx.form;clear hx;refine⟨_,rfl,hb,?_⟩;replace E:=hid (E.out.trans hb);replace R':=hid (R'.out.up hb);have HS1:=hid hs1;have R1:=hid hr1;clear hb hs1 hr1;simp only[pX];refine WE.call (d:=some 8) rfl rfl (by rfl) (f:=112) (args:=#[(.agg #[.bool g',.slice A' n' c'])]) (by go_simp) ?_;refine(read_w R'.out).mono ?_;rintro e wn ⟨vx,rfl,hx,hb⟩;obtain⟨s2,A2,n2,c2,rfl,hs2,hr2⟩:=hx.form;clear hx;refine⟨_,rfl,hb,?_⟩;replace E:=hid (E.out.trans hb);replace R1:=hid (R1.out.up hb);have HS2:=hid hs2;have R2:=hid hr2;clear hb hs2 hr2;simp only[pX];refine WE.call (d:=some 9) rfl rfl (by rfl) (f:=235) (args:=#[(.agg #[.int .i64 s1,.slice A1 n1 c1]),(.agg #[.int .i64 s2,.slice A2 n2 c2])]) (by go_simp) ?_;refine(compare_i (InZ.mk HS1.out R1.out) (InZ.mk HS2.out R2.out)).mono ?_;rw[HZ.out];rintro e wn ⟨rfl,hb⟩;refine⟨_,rfl,hb,?_⟩;replace E:=hid (E.out.trans hb);clear hb;refine WE.p 4 (.int .i64 z) ?_;simp only[pX];refine WE.done ?_;go_wp2;go_ret;exact⟨rfl,E.out⟩
set_option maxHeartbeats 1000000 in
theorem same_w {w:World}{u v:Value}{Z Y:Int}{j k:Nat}(hu:Worth w u Z j)(hv:Worth w v Y k){b:Bool}(hb:decide (Z=Y)=b):
 Calls Tryz.prog 227 #[u,v] w (GivesB w b):=by
 obtain⟨g,A,n,c,rfl⟩:=hu.shape;obtain⟨g',A',n',c',rfl⟩:=hv.shape;have R:=hid hu;have R':=hid hv;clear hu hv;obtain⟨z,hz⟩:∃z:Int,M.zcmp Z Y=z:=⟨_,rfl⟩;have hzb:(z==0)=b:=by rw[←hz,←hb,Bool.eq_iff_iff];simp[M.zcmp_eq]
 have HZ:=hid hz;clear hz hb;go_enter Tryz.func227,Tryz.ntmps227
 go_upto_region 1 with (fail)
 obtain⟨E,B1,B2⟩:=open2 w #[.bool g,.slice A n c] 24 #[.bool g',.slice A' n' c'] 24;replace R:=hid (R.out.up E.out);replace R':=hid (R'.out.up E.out);refine wp_region_S [(0,0),(1,0),(2,1),(3,0),(4,0)] fun wd hb=>?_;replace E:=hid (E.out.trans hb);replace B1:=hid (B1.out.up hb);replace B2:=hid (B2.out.up hb);replace R:=hid (R.out.up hb);replace R':=hid (R'.out.up hb);clear hb;refine WE.q 5 (.agg #[.bool g,.slice A n c]) rfl (fun w' hk=>by have c0:=(B1.out.up hk).k 0;have c1:=(B1.out.up hk).k 1;go_simp) ?_;refine WE.q 6 (.agg #[.bool g',.slice A' n' c']) rfl (fun w' hk=>by have c0:=(B2.out.up hk).k 0;have c1:=(B2.out.up hk).k 1;go_simp) ?_;simp only[pX];refine WE.call (d:=some 7) rfl rfl (by rfl) (f:=203) (args:=#[(.agg #[.bool g,.slice A n c]),(.agg #[.bool g',.slice A' n' c'])]) (by go_simp) ?_;refine(cmp_w R.out R'.out HZ.out).mono ?_;rintro e wn ⟨rfl,hb⟩;refine⟨_,rfl,hb,?_⟩;replace E:=hid (E.out.trans hb);clear hb;refine WE.p 8 (.bool b) ?_;refine WE.p 4 (.bool b) ?_;simp only[pX];refine WE.done ?_;go_wp2;go_ret;exact⟨rfl,E.out⟩
set_option maxHeartbeats 1000000 in
theorem abs_w {w:World}{u:Value}{Z:Int}{j:Nat}(hu:Worth w u Z j)(hj:j≤100000000):
 Calls Tryz.prog 69 #[u] w (GivesZ w (Z.natAbs:Int) j):=by
 obtain⟨g,A,n,c,rfl⟩:=hu.shape;have R:=hid hu;clear hu;have HJ:=hid hj;clear hj;go_enter Tryz.func69,Tryz.ntmps69
 go_upto_region 1 with (fail)
 obtain⟨E,B1,B2⟩:=open2 w #[.bool g,.slice A n c] 24 #[.bool false,.slice none 0 0] 24;replace R:=hid (R.out.up E.out);refine wp_region_S [(0,0),(1,1),(2,1),(3,1),(4,4)] fun wd hb=>?_;replace E:=hid (E.out.trans hb);replace B1:=hid (B1.out.up hb);replace B2:=hid (B2.out.up hb);replace R:=hid (R.out.up hb);clear hb;refine WE.q 3 (.agg #[.bool g,.slice A n c]) rfl (fun w' hk=>by have c0:=(B1.out.up hk).k 0;have c1:=(B1.out.up hk).k 1;go_simp) ?_;simp only[pX];refine WE.call (d:=some 4) rfl rfl (by rfl) (f:=112) (args:=#[(.agg #[.bool g,.slice A n c])]) (by go_simp) ?_;refine(read_w R.out).mono ?_;rintro e wn ⟨vx,rfl,hx,hb⟩;obtain⟨s1,A1,n1,c1,rfl,hs1,hr1⟩:=hx.form;clear hx;refine⟨_,rfl,hb,?_⟩;replace E:=hid (E.out.trans hb);replace B2:=hid (B2.out.up hb);have HS1:=hid hs1;have R1:=hid hr1;clear hb hs1 hr1;simp only[pX];refine WE.call (d:=some 5) rfl rfl (by rfl) (f:=113) (args:=#[(.agg #[.int .i64 s1,.slice A1 n1 c1])]) (by go_simp) ?_;refine(absolute_i (InZ.mk HS1.out R1.out)).mono ?_;rintro e wn ⟨vx,rfl,hx,hb⟩;obtain⟨s2,A2,n2,c2,rfl,hs2,hr2⟩:=hx.form;clear hx;refine⟨_,rfl,hb,?_⟩;replace E:=hid (E.out.trans hb);replace B2:=hid (B2.out.up hb);have HS2:=hid hs2;have R2:=hid hr2;clear hb hs2 hr2;simp only[pX];refine WE.call (d:=some 6) rfl rfl (by rfl) (f:=111) (args:=#[(.agg #[.int .i64 s2,.slice A2 n2 c2])]) (by go_simp) ?_;refine(copied_i (InZ.mk HS2.out R2.out) HJ.out).mono ?_;rintro e wn ⟨vx,rfl,hx,hb⟩;obtain⟨g3,A3,n3,c3,rfl,hs3,hr3⟩:=hx.form;clear hx;refine⟨_,rfl,hb,?_⟩;replace E:=hid (E.out.trans hb);replace B2:=hid (B2.out.up hb);have HS3:=hid hs3;have R3:=hid hr3;clear hb hs3 hr3;simp only[pX];refine WE.store2 (g:=(w.heap.size+1)) (x:=.bool g3) (y:=.slice A3 n3 c3) (t:=24) rfl rfl (by rfl) (fun w hb=>?_) B2.out (by rfl) fun ws hk hs=>?_
 ·have c0:=hb.k 0;have f0:=hb.free 0;have c1:=hb.k 1;have f1:=hb.free 1;go_simp
 intro hbx;replace E:=hid (E.out.keptG hk (by simp));replace B2:=hid hbx;replace R3:=hid (R3.out.kz hs);clear hk hs hbx;refine WE.done ?_;have r0:=B2.out.cell (o:=0) (v:=.bool g3) rfl;have r1:=B2.out.cell (o:=1) (v:=.slice A3 n3 c3) rfl;go_wp2;exact bodyPost_ret (v:=.agg #[.bool g3,.slice A3 n3 c3]) (by simp[results,Tryz.results69,go_sem,r0,r1]) rfl ⟨_,rfl,IsZ.mk HS3.out R3.out,E.out⟩
namespace M
def most (Z:Int): Nat:=if Z<0 then 9223372036854775808 else 9223372036854775807
def fits (Z:Int): Prop:=-9223372036854775808≤Z∧Z≤9223372036854775807
theorem wrap64_eq (n:Int): wrap64 n=IntKind.i64.wrap n:=by rw[IntKind.wrap_i64];unfold wrap64;omega
theorem most_side (Z:Int): (Z.sign<0→(most Z:Int)=9223372036854775808)∧(0≤Z.sign→(most Z:Int)=9223372036854775807):=by
 unfold most;rcases sign_cases Z with⟨h,e⟩|⟨h,e⟩|⟨h,e⟩<;>rw[e]
 ·rw[if_pos h];exact⟨fun _=>rfl,fun h=>absurd h (by decide)⟩
 ·rw[if_neg (by omega)];exact⟨fun h=>absurd h (by decide),fun _=>rfl⟩
 ·rw[if_neg (by omega)];exact⟨fun h=>absurd h (by decide),fun _=>rfl⟩
theorem most_le (Z:Int): (most Z:Int)≤18446744073709551615:=by unfold most;split<;>omega
theorem fits_iff (Z:Int): fits Z↔Z.natAbs≤most Z:=by unfold fits most;split<;>omega
theorem small_last {Z s a:Int}(hs:s=Z.sign)(ha:a=IntKind.i64.wrap (Z.natAbs:Int))(hf:fits Z): IntKind.i64.wrap (s*a)=Z:=by
 subst hs ha;unfold fits at hf;rcases sign_cases Z with⟨h,e⟩|⟨h,e⟩|⟨h,e⟩<;>rw[e]<;>rw[IntKind.wrap_i64,IntKind.wrap_i64]<;>omega
theorem small_step {a a':Int}{l:List Nat}{k x:Nat}(ha:a=IntKind.i64.wrap (val (l.drop (k+1)):Int))(hx:l[k]?=some x)(h':a'=wrap64 (wrap64 (a*1000000000)+wrap64 (x:Int))): a'=IntKind.i64.wrap (val (l.drop k):Int):=by
 subst ha h';have e:val (l.drop k)=x+1000000000*val (l.drop (k+1)):=by rw[drop_at hx];rfl
 rw[e,IntKind.wrap_i64,IntKind.wrap_i64];unfold wrap64;omega
end M
set_option maxHeartbeats 1000000 in
theorem small_no {w:World}{u:Value}{Z:Int}{j:Nat}(hu:Worth w u Z j)(hf:¬M.fits Z):
 Calls Tryz.prog 225 #[u] w (fun e w'=>e=.returned (.tuple #[.int .i64 0,.bool false])∧Ext w w'):=by
 obtain⟨g,A,n,c,rfl⟩:=hu.shape;have R:=hid hu;clear hu;have HF:=hid hf;clear hf;obtain⟨m,hm⟩:∃m:Nat,m=M.most Z:=⟨_,rfl⟩;have HM:=hid hm;clear hm;go_enter Tryz.func225,Tryz.ntmps225
 go_upto_region 1 with (fail)
 obtain⟨E,B1⟩:=open1 w #[.bool g,.slice A n c] 24;replace R:=hid (R.out.up E.out);refine wp_region_S [(0,0),(1,1),(2,1),(3,4)] fun wd hb=>?_;replace E:=hid (E.out.trans hb);replace B1:=hid (B1.out.up hb);replace R:=hid (R.out.up hb);clear hb;refine WE.q 7 (.agg #[.bool g,.slice A n c]) rfl (fun w' hk=>by have c0:=(B1.out.up hk).k 0;have c1:=(B1.out.up hk).k 1;go_simp) ?_;refine WE.call (d:=some 8) rfl rfl (by rfl) (f:=112) (args:=#[(.agg #[.bool g,.slice A n c])]) (by go_simp) ?_;refine(read_w R.out).mono ?_;rintro e wn ⟨vx,rfl,hx,hb⟩;obtain⟨s1,A1,n1,c1,rfl,hs1,hr1⟩:=hx.form;clear hx;refine⟨_,rfl,hb,?_⟩;replace E:=hid (E.out.trans hb);have HS1:=hid hs1;have R1:=hid hr1;clear hb hs1 hr1;refine WE.new (d:=some 4) (cs:=#[.int .i64 0,.slice none 0 0]) (t:=138) (v:=fun g=>(.pointer (some ⟨g,0,none⟩))) rfl rfl (by rfl) (fun w=>by go_simp) fun gC1 wv hx0 hbox hge=>?_;have HGC1:=hid (show w.heap.size≤gC1 by have:=E.out.size;omega);replace E:=hid (E.out.trans hx0);replace R1:=hid (R1.out.up hx0);have C1:Hid (Box wv gC1 #[.int .i64 0,.slice none 0 0] 138):=hid hbox;clear hx0 hbox hge;simp only[pX];refine WE.store2 (g:=gC1) (x:=.int .i64 s1) (y:=.slice A1 n1 c1) (t:=138) rfl rfl (by rfl) (fun w hb=>?_) C1.out (by rfl) fun ws hk hs=>?_
 ·have c0:=hb.k 0;have f0:=hb.free 0;have c1:=hb.k 1;have f1:=hb.free 1;go_simp
 intro hbx;replace E:=hid (E.out.keptG hk HGC1.out);replace C1:=hid hbx;replace R1:=hid (R1.out.kz hs);clear hk hs hbx;refine WE.done ?_;have HMO:=hid (show (s1<0→(m:Int)=9223372036854775808)∧(0≤s1→(m:Int)=9223372036854775807) by rw[HS1.out,HM.out];exact M.most_side Z);go_upto_region 2 with (fail)
 refine wp_region_D [(0,0),(1,0),(2,0),(3,0),(4,1),(5,1),(6,1),(7,0)] fun wd hb=>?_;replace E:=hid (E.out.trans hb);replace C1:=hid (C1.out.up hb);replace R1:=hid (R1.out.up hb);clear hb;refine WE.p 9 (.pointer (some ⟨gC1,1,none⟩)) ?_;refine WE.q 10 (.slice A1 n1 c1) rfl (fun w' hk=>by have c1:=(C1.out.up hk).k 1;go_simp) ?_;refine WE.p 11 (.pointer (some ⟨gC1,0,none⟩)) ?_;refine WE.q 12 (.agg #[.int .i64 s1]) rfl (fun w' hk=>by have c0:=(C1.out.up hk).k 0;go_simp) ?_;refine WE.call (d:=some 13) rfl rfl (by rfl) (f:=242) (args:=#[(.agg #[.int .i64 s1])]) (by go_simp) ?_;refine(most_s _ s1 (m:=(m:Int)) HMO).mono ?_;rintro e wn ⟨rfl,hb⟩;refine⟨_,rfl,hb,?_⟩;replace E:=hid (E.out.trans hb);replace R1:=hid (R1.out.up hb);clear hb;refine WE.call (d:=some 14) rfl rfl (by rfl) (f:=72) (args:=#[(.int .u64 (m:Int))]) (by go_simp) ?_;refine(of_n m (by rw[HM.out];exact M.most_le Z) _).mono ?_;rintro e wn ⟨vx,rfl,hx,hb⟩;obtain⟨A2,n2,c2,rfl⟩:=hx.1.slice;refine⟨_,rfl,hb,?_⟩;replace E:=hid (E.out.trans hb);replace R1:=hid (R1.out.up hb);have R2:=hid hx;clear hb hx;simp only[pX];refine WE.call (d:=some 15) rfl rfl (by rfl) (f:=241) (args:=#[(.slice A1 n1 c1),(.slice A2 n2 c2)]) (by go_simp) ?_;refine(cmp_n R1.out R2.out (z:=1) (M.cmp_gt (by rw[HM.out];have:=HF.out;rw[M.fits_iff] at this;omega))).mono ?_;rintro e wn ⟨rfl,hb⟩;refine⟨_,rfl,hb,?_⟩;replace E:=hid (E.out.trans hb);clear hb;refine WE.p 16 (.bool true) ?_;simp only[pX];refine WE.done ?_;go_wp2;go_ret2
 exact⟨rfl,E.out⟩
set_option maxHeartbeats 2000000 in
theorem small_yes {w:World}{u:Value}{Z:Int}{j:Nat}(hu:Worth w u Z j)(hf:M.fits Z):
 Calls Tryz.prog 225 #[u] w (fun e w'=>e=.returned (.tuple #[.int .i64 Z,.bool true])∧Ext w w'):=by
 obtain⟨g,A,n,c,rfl⟩:=hu.shape;have R:=hid hu;clear hu;have HF:=hid hf;clear hf;obtain⟨m,hm⟩:∃m:Nat,m=M.most Z:=⟨_,rfl⟩;have HM:=hid hm;obtain⟨z,hz⟩:∃z:Int,z=M.cmp Z.natAbs m:=⟨_,rfl⟩;have HZ:=hid hz;have hz0:decide (0<z)=false:=by have:=M.cmp_nonpos (show Z.natAbs≤m by rw[hm];exact(M.fits_iff Z).1 HF.out);rw[←hz] at this;simpa using this
 clear hz;clear hm;go_enter Tryz.func225,Tryz.ntmps225
 go_upto_region 1 with (fail)
 obtain⟨E,B1⟩:=open1 w #[.bool g,.slice A n c] 24;replace R:=hid (R.out.up E.out);refine wp_region_S [(0,0),(1,1),(2,1),(3,4)] fun wd hb=>?_;replace E:=hid (E.out.trans hb);replace B1:=hid (B1.out.up hb);replace R:=hid (R.out.up hb);clear hb;refine WE.q 7 (.agg #[.bool g,.slice A n c]) rfl (fun w' hk=>by have c0:=(B1.out.up hk).k 0;have c1:=(B1.out.up hk).k 1;go_simp) ?_;refine WE.call (d:=some 8) rfl rfl (by rfl) (f:=112) (args:=#[(.agg #[.bool g,.slice A n c])]) (by go_simp) ?_;refine(read_w R.out).mono ?_;rintro e wn ⟨vx,rfl,hx,hb⟩;obtain⟨s1,A1,n1,c1,rfl,hs1,hr1⟩:=hx.form;clear hx;refine⟨_,rfl,hb,?_⟩;replace E:=hid (E.out.trans hb);have HS1:=hid hs1;have R1:=hid hr1;clear hb hs1 hr1;refine WE.new (d:=some 4) (cs:=#[.int .i64 0,.slice none 0 0]) (t:=138) (v:=fun g=>(.pointer (some ⟨g,0,none⟩))) rfl rfl (by rfl) (fun w=>by go_simp) fun gC1 wv hx0 hbox hge=>?_;have HGC1:=hid (show w.heap.size≤gC1 by have:=E.out.size;omega);replace E:=hid (E.out.trans hx0);replace R1:=hid (R1.out.up hx0);have C1:Hid (Box wv gC1 #[.int .i64 0,.slice none 0 0] 138):=hid hbox;clear hx0 hbox hge;simp only[pX];refine WE.store2 (g:=gC1) (x:=.int .i64 s1) (y:=.slice A1 n1 c1) (t:=138) rfl rfl (by rfl) (fun w hb=>?_) C1.out (by rfl) fun ws hk hs=>?_
 ·have c0:=hb.k 0;have f0:=hb.free 0;have c1:=hb.k 1;have f1:=hb.free 1;go_simp
 intro hbx;replace E:=hid (E.out.keptG hk HGC1.out);replace C1:=hid hbx;replace R1:=hid (R1.out.kz hs);clear hk hs hbx;refine WE.done ?_;have HMO:=hid (show (s1<0→(m:Int)=9223372036854775808)∧(0≤s1→(m:Int)=9223372036854775807) by rw[HS1.out,HM.out];exact M.most_side Z);go_upto_region 2 with (fail)
 refine wp_region_D [(0,0),(1,0),(2,0),(3,0),(4,1),(5,1),(6,1),(7,0)] fun wd hb=>?_;replace E:=hid (E.out.trans hb);replace C1:=hid (C1.out.up hb);replace R1:=hid (R1.out.up hb);clear hb;refine WE.p 9 (.pointer (some ⟨gC1,1,none⟩)) ?_;refine WE.q 10 (.slice A1 n1 c1) rfl (fun w' hk=>by have c1:=(C1.out.up hk).k 1;go_simp) ?_;refine WE.p 11 (.pointer (some ⟨gC1,0,none⟩)) ?_;refine WE.q 12 (.agg #[.int .i64 s1]) rfl (fun w' hk=>by have c0:=(C1.out.up hk).k 0;go_simp) ?_;refine WE.call (d:=some 13) rfl rfl (by rfl) (f:=242) (args:=#[(.agg #[.int .i64 s1])]) (by go_simp) ?_;refine(most_s _ s1 (m:=(m:Int)) HMO).mono ?_;rintro e wn ⟨rfl,hb⟩;refine⟨_,rfl,hb,?_⟩;replace E:=hid (E.out.trans hb);replace C1:=hid (C1.out.up hb);replace R1:=hid (R1.out.up hb);clear hb;refine WE.call (d:=some 14) rfl rfl (by rfl) (f:=72) (args:=#[(.int .u64 (m:Int))]) (by go_simp) ?_;refine(of_n m (by rw[HM.out];exact M.most_le Z) _).mono ?_;rintro e wn ⟨vx,rfl,hx,hb⟩;obtain⟨A2,n2,c2,rfl⟩:=hx.1.slice;refine⟨_,rfl,hb,?_⟩;replace E:=hid (E.out.trans hb);replace C1:=hid (C1.out.up hb);replace R1:=hid (R1.out.up hb);have R2:=hid hx;clear hb hx;simp only[pX];refine WE.call (d:=some 15) rfl rfl (by rfl) (f:=241) (args:=#[(.slice A1 n1 c1),(.slice A2 n2 c2)]) (by go_simp) ?_;refine(cmp_n R1.out R2.out HZ.out.symm).mono ?_;rintro e wn ⟨rfl,hb⟩;refine⟨_,rfl,hb,?_⟩;replace E:=hid (E.out.trans hb);replace C1:=hid (C1.out.up hb);replace R1:=hid (R1.out.up hb);clear hb;refine WE.p 16 (.bool false) ?_;simp only[pX];refine WE.done ?_;have c0:=C1.out.cell (o:=0) (v:=.int .i64 s1) rfl;have c1:=C1.out.cell (o:=1) (v:=.slice A1 n1 c1) rfl;obtain⟨A2',n2',c2',e2,hn,hc,hmx,hs,hr⟩:=R1.out.1;injection e2 with e2 e3 e4;subst e2 e3 e4;have hb1:n1≤9223372036854775807:=by unfold maxLen at hmx;omega
 have HR:=hid hr;have HN:=hid hn;clear hr hn hs hmx hc;have EE:=E;clear E B1 R R1 R2 HMO HGC1;go_wp2;go_loop [5,6] (fun x i=>∃(k:Nat) (z a:Int),k≤n1∧z=(k:Int)-1∧i=.int .i64 z∧x=.int .i64 a∧a=IntKind.i64.wrap (M.val ((M.limbs Z.natAbs).drop k):Int)) (fun _ i=>(intOf i+1).toNat)
 case atStart=>exact⟨n1,_,_,Nat.le_refl _,rfl,rfl,rfl,by rw[List.drop_eq_nil_of_le (by rw[←HN.out];exact Nat.le_refl _)];rfl⟩
 case round=>
  obtain⟨k,z,a,hk,hz,rfl,rfl,ha⟩:=hrel;have HA:=hid ha;clear ha;rcases k with _|k
  ·obtain rfl:z=-1:=by omega
   clear hz;have HR2:=hid (show wrap64 (s1*a)=Z from(M.wrap64_eq _).trans (M.small_last HS1.out (HA.out.trans (by rw[List.drop_zero,M.val_limbs])) HF.out));go_wp2;go_ret2
   refine⟨?_,EE.out⟩;show Ending.returned (.tuple #[.int .i64 (wrap64 (s1*a)),.bool true])=_;rw[HR2.out]
  ·obtain rfl:z=(k:Int):=by omega
   clear hz;have hlt:k<n1:=by omega
   obtain⟨ad,x,rfl,_,HX,hcell⟩:=HR.out.get (k:=k) (by rw[←HN.out];exact hlt);go_wp2;go_round
   case rel=>exact⟨k,_,_,by omega,rfl,rfl,rfl,M.small_step HA.out HX.out rfl⟩
   case measure=>simp[intOf];all_goals omega
open Go.ChangeShapes Go.WideShapes Go.ChangeAt Go.RowKit
theorem own:ownKnob Tryz.prog.godebug=none:=by kernel_rfl
theorem laidOut:laidOutB Tryz.prog=true:=by kernel_rfl
section
variable {H:Type} {enc:TypeId×Value→H} {W W':World}
theorem args_stay {sp':Nat→Bool}: ∀{ts:List TypeId} {vs:List Value} {ds:List (DataW H)} {ps:List MemPlace},(∀t∈ts,Tryz.prog.readableRec t=true∧t<Tryz.prog.types.size) →
 DataW.TrodAll enc Tryz.prog W 0 (fun _=>true) true ts vs ds ps→Below W.heap.size W W'→(∀p∈ps,p.block<W.heap.size)→(∀p∈ps,sp' p.block=true)→DataW.TrodAll enc Tryz.prog W' 0 sp' true ts vs ds ps
 | [],[],[],_,_,h,_,_,_=>h
 | t::ts,v::vs,d::ds,ps,hts,⟨p,q,h1,h2,he⟩,hb,hlt,hs=>by
  subst he;refine⟨p,q,WideElems.Trod_stays laidOut (hts t (by simp)).1 (hts t (by simp)).2 h1 (fun x hx=>hb.same (hlt x (List.mem_append_left _ hx))) (fun x hx=>hs x (List.mem_append_left _ hx)),?_,rfl⟩;exact args_stay (fun t' ht=>hts t' (List.mem_cons_of_mem _ ht)) h2 hb (fun x hx=>hlt x (List.mem_append_right _ hx)) (fun x hx=>hs x (List.mem_append_right _ hx))
theorem law_post {f:Func}{s:ChangeSpec}{args:Array Value}{ds gs:List (DataW H)}{before:List MemPlace}
 (hW:DataW.Whole enc Tryz.prog f.params.toList s.vars false W args.toList ds gs before) (hs:s.vars=[]) (hspec:s.fn H (ds++gs)={ results:=[.lit (.bool true)],args:=ds })
 (hrt:f.resultTypes=#[4]) (hall:(f.params.toList.all fun t=>Tryz.prog.readableRec t&&decide (t<Tryz.prog.types.size))=true) (hb:Ext W W') :
 s.post enc Tryz.prog f false true false false W args (.bool true) W':=by
 have hts:∀t∈f.params.toList,Tryz.prog.readableRec t=true∧t<Tryz.prog.types.size:=fun t ht=>by simpa using List.all_eq_true.1 hall t ht
 have hW':=hW;obtain⟨p,q,hA,hV,hpq,hfz,hnd⟩:=hW;rw[hs] at hV;have hlt:∀x∈p,x.block<W.heap.size:=fun x hx=>hW'.lt x (by rw[hpq];exact List.mem_append_left _ hx);obtain⟨rfl,rfl⟩:=trodVars_none hV;refine⟨ds,[],before,[],p,[],hW',?_,?_,?_,?_,fun h=>by cases h⟩
 ·rw[hspec,hrt];exact trodAll_mk1 (shut_bool Tryz.underlying4 true)
 ·rw[hspec];exact args_stay hts hA hb hlt (fun x hx=>by simpa using hlt x hx)
 ·rw[hspec,hs];rfl
 ·refine World.keptBut_mono (fun x hx=>⟨hx,.inr (.inl ?_)⟩) (hb.below.frame (·∈before));rw[hpq,List.append_nil] at hx;exact hx
end
theorem IsZ.shape {w:World}{v:Value}{Z:Int}{k:Nat}(h:IsZ w v Z k): ∃g A n c,v=.agg #[.bool g,.slice A n c]:=by
 obtain⟨A,n,c,e,_⟩:=h;exact⟨_,A,n,c,e⟩
theorem worth_of {w:World}{g:Bool}{A:Option Addr}{n c:Nat}{l:List Nat}(hm:Num w w.heap.size (.slice A n c) l){k:Nat}(hk:l.length≤k){x:Int}(hx:x=M.zv g l): Worth w (.agg #[.bool g,.slice A n c]) x k:=
 ⟨g,A,n,c,l,rfl,hm,hk,hx.symm⟩
end Go.Proofs.YtoenjbkmiphhoaaGreatDoor
