/-
  Contract of package digits: Print.
-/
import Derived.Test.YtoenjbkmiphhoaaGreatDoorA09
import Derived.Test.YtoenjbkmiphhoaaGreatDoorA07
namespace Go.Proofs.YtoenjbkmiphhoaaGreatDoor
open Go.RowKit
set_option linter.unusedSimpArgs false
set_option linter.unusedVariables false
set_option maxHeartbeats 1000000 in
theorem print_neg {w:World}{u:Value}{Z:Int}{j:Nat}(hu:Worth w u Z j)(hj:j≤1000000)(ht:Tab w)(hz:Z<0):
 Calls Tryz.prog 38 #[u] w (GivesT w (M.print Z)):=by
 obtain⟨g,A,n,c,rfl⟩:=hu.shape;have R:=hid hu;have HJ:=hid hj;have HT:=hid ht;have HZ:=hid hz;have hq:decide (Z.sign<0)=true:=by rw[decide_eq_true_eq,M.sign_neg];exact hz
 clear hu hj ht hz;go_enter Tryz.func38,Tryz.ntmps38
 go_upto_region 1 with (fail)
 have E:=hid ((Ext.refl w).alloc' (.cells #[.bool g,.slice A n c] 24));have B1:Hid (Box (w.alloc (.cells #[.bool g,.slice A n c] 24)) (w.heap.size) #[.bool g,.slice A n c] 24):=hid (Box.at_ (w:=w) #[.bool g,.slice A n c] 24 (by simp));replace R:=hid (R.out.up E.out);replace HT:=hid (HT.out.up E.out);refine wp_region_T [(0,0),(1,1),(2,0),(3,1),(4,0)] (by kernel_rfl) fun wd hb=>?_;replace E:=hid (E.out.trans hb);replace B1:=hid (B1.out.up hb);replace R:=hid (R.out.up hb);replace HT:=hid (HT.out.up hb);clear hb;refine WE.pure (d:=some 4) rfl rfl (by rfl) (v:=(.agg #[.bool g,.slice A n c])) (fun w' hk=>?_) ?_
 ·have c0:=hk.cell (B1.out.cell (o:=0) (v:=.bool g) rfl);have c1:=hk.cell (B1.out.cell (o:=1) (v:=.slice A n c) rfl);go_simp
 simp only[pX];refine WE.call (d:=some 5) rfl rfl (by rfl) (f:=69) (args:=#[(.agg #[.bool g,.slice A n c])]) (by go_simp) ?_;refine(abs_w R.out (Nat.le_trans HJ.out (by omega))).mono ?_;rintro e wn ⟨vx,rfl,hx,hb⟩;obtain⟨g1,A1,n1,c1,rfl,hs1,hr1⟩:=hx.form;clear hx;refine⟨_,rfl,hb,?_⟩;replace E:=hid (E.out.trans hb);replace B1:=hid (B1.out.up hb);replace R:=hid (R.out.up hb);replace HT:=hid (HT.out.up hb);have HS1:=hid hs1;have R1:=hid hr1;clear hb hs1 hr1;simp only[pX];refine WE.pure (d:=some 6) rfl rfl (by rfl) (v:=(.slice A1 n1 c1)) (fun w' hk=>?_) ?_
 ·have hf:∀w,(Instr.field 24 (.agg #[.bool g1,.slice A1 n1 c1]) 1).run Tryz.prog w=.ok (.slice A1 n1 c1) w:=(fun w=>by kernel_rfl);go_simp
 simp only[pX];refine WE.call (d:=some 7) rfl rfl (by rfl) (f:=68) (args:=#[(.slice A1 n1 c1)]) (by go_simp) ?_;refine(digitsNat_N (N:=Z.natAbs) R1.out HJ.out HT.out).mono ?_;rintro e wn ⟨rfl,hb⟩;refine⟨_,rfl,hb,?_⟩;replace E:=hid (E.out.trans hb);replace B1:=hid (B1.out.up hb);replace R:=hid (R.out.up hb);replace R1:=hid (R1.out.up hb);clear hb;simp only[pX];refine WE.pure (d:=some 3) rfl rfl (by rfl) (v:=(str (Lib.decDigits Z.natAbs))) (fun w' hk=>?_) ?_
 ·go_simp
 simp only[pX];refine WE.done ?_;go_upto_region 2 with (fail)
 refine wp_region_T [(0,0),(1,1),(2,0)] (by kernel_rfl) fun wd hb=>?_;replace E:=hid (E.out.trans hb);replace B1:=hid (B1.out.up hb);replace R:=hid (R.out.up hb);replace R1:=hid (R1.out.up hb);clear hb;refine WE.pure (d:=some 8) rfl rfl (by rfl) (v:=(.agg #[.bool g,.slice A n c])) (fun w' hk=>?_) ?_
 ·have c0:=hk.cell (B1.out.cell (o:=0) (v:=.bool g) rfl);have c1:=hk.cell (B1.out.cell (o:=1) (v:=.slice A n c) rfl);go_simp
 simp only[pX];refine WE.call (d:=some 9) rfl rfl (by rfl) (f:=70) (args:=#[(.agg #[.bool g,.slice A n c])]) (by go_simp) ?_;refine(sign_w R.out).mono ?_;rintro e wn ⟨rfl,hb⟩;refine⟨_,rfl,hb,?_⟩;replace E:=hid (E.out.trans hb);replace R1:=hid (R1.out.up hb);clear hb;simp only[pX];refine WE.pure (d:=some 10) rfl rfl (by rfl) (v:=(.bool true)) (fun w' hk=>?_) ?_
 ·have q:Z<0:=(by have:=HZ.out;omega);go_simp
 simp only[pX];refine WE.done ?_;go_upto_region 3 with (fail)
 refine wp_region_T [(0,0),(1,1),(2,1),(3,0)] (by kernel_rfl) fun wd hb=>?_;replace E:=hid (E.out.trans hb);replace R1:=hid (R1.out.up hb);clear hb;have HLN:=hid (show Lib.nDigits Z.natAbs≤9*j+1 by obtain⟨_,_,_,_,_,h3⟩:=(IsZ.mk HS1.out R1.out:IsZ _ _ ((Z.natAbs:Nat):Int) j);have h4:=M.dec_room (M.limbs Z.natAbs);rw[M.nv_limbs] at h4;exact Nat.le_trans h4 (by have:(M.limbs Z.natAbs).length≤j:=h3;omega));refine WE.pure (d:=some 11) rfl rfl (by rfl) (v:=(str (Lib.decDigits Z.natAbs))) (fun w' hk=>?_) ?_
 ·go_simp
 simp only[pX];refine WE.new (d:=some 12) (cs:=#[str [40,45,32],str (Lib.decDigits Z.natAbs),str [41]]) (t:=9) (v:=fun g=>(.slice (some ⟨g,0,none⟩) 3 3)) rfl rfl (by rfl) (fun w=>by go_simp) fun gL1 wv hx0 hbox hge=>?_;replace E:=hid (E.out.trans hx0);have L1:Hid (Box wv gL1 #[str [40,45,32],str (Lib.decDigits Z.natAbs),str [41]] 9):=hid hbox;clear hx0 hbox hge;simp only[pX];refine WE.call (d:=some 13) rfl rfl (by rfl) (f:=71) (args:=#[(.slice (some ⟨gL1,0,none⟩) 3 3)]) (by go_simp) ?_;refine(together_n gL1 0 3 [[40,45,32],Lib.decDigits Z.natAbs,[41]] (Box.texts (xs:=[[40,45,32],Lib.decDigits Z.natAbs,[41]]) L1.out) L1.out.lt (by simp) (by simp) (by simp[M.dec_length];have:=HLN.out;have:=HJ.out;omega)).mono ?_;rintro e wn ⟨rfl,hb⟩;refine⟨_,rfl,hb,?_⟩;replace E:=hid (E.out.trans hb);clear hb;simp only[pX];refine WE.pure (d:=some 2) rfl rfl (by rfl) (v:=(str [[40,45,32],Lib.decDigits Z.natAbs,[41]].flatten)) (fun w' hk=>?_) ?_
 ·go_simp
 simp only[pX];refine WE.done ?_;go_wp2;go_ret;refine⟨?_,E.out⟩;rw[M.print,if_pos (by have:=HZ.out;omega)];rfl
set_option maxHeartbeats 1000000 in
theorem print_pos {w:World}{u:Value}{Z:Int}{j:Nat}(hu:Worth w u Z j)(hj:j≤1000000)(ht:Tab w)(hz:¬Z<0):
 Calls Tryz.prog 38 #[u] w (GivesT w (M.print Z)):=by
 obtain⟨g,A,n,c,rfl⟩:=hu.shape;have R:=hid hu;have HJ:=hid hj;have HT:=hid ht;have HZ:=hid hz;have hq:decide (Z.sign<0)=false:=by rw[decide_eq_false_iff_not,M.sign_neg];exact hz
 clear hu hj ht hz;go_enter Tryz.func38,Tryz.ntmps38
 go_upto_region 1 with (fail)
 have E:=hid ((Ext.refl w).alloc' (.cells #[.bool g,.slice A n c] 24));have B1:Hid (Box (w.alloc (.cells #[.bool g,.slice A n c] 24)) (w.heap.size) #[.bool g,.slice A n c] 24):=hid (Box.at_ (w:=w) #[.bool g,.slice A n c] 24 (by simp));replace R:=hid (R.out.up E.out);replace HT:=hid (HT.out.up E.out);refine wp_region_T [(0,0),(1,1),(2,0),(3,1),(4,0)] (by kernel_rfl) fun wd hb=>?_;replace E:=hid (E.out.trans hb);replace B1:=hid (B1.out.up hb);replace R:=hid (R.out.up hb);replace HT:=hid (HT.out.up hb);clear hb;refine WE.pure (d:=some 4) rfl rfl (by rfl) (v:=(.agg #[.bool g,.slice A n c])) (fun w' hk=>?_) ?_
 ·have c0:=hk.cell (B1.out.cell (o:=0) (v:=.bool g) rfl);have c1:=hk.cell (B1.out.cell (o:=1) (v:=.slice A n c) rfl);go_simp
 simp only[pX];refine WE.call (d:=some 5) rfl rfl (by rfl) (f:=69) (args:=#[(.agg #[.bool g,.slice A n c])]) (by go_simp) ?_;refine(abs_w R.out (Nat.le_trans HJ.out (by omega))).mono ?_;rintro e wn ⟨vx,rfl,hx,hb⟩;obtain⟨g1,A1,n1,c1,rfl,hs1,hr1⟩:=hx.form;clear hx;refine⟨_,rfl,hb,?_⟩;replace E:=hid (E.out.trans hb);replace B1:=hid (B1.out.up hb);replace R:=hid (R.out.up hb);replace HT:=hid (HT.out.up hb);have R1:=hid hr1;clear hb hs1 hr1;simp only[pX];refine WE.pure (d:=some 6) rfl rfl (by rfl) (v:=(.slice A1 n1 c1)) (fun w' hk=>?_) ?_
 ·have hf:∀w,(Instr.field 24 (.agg #[.bool g1,.slice A1 n1 c1]) 1).run Tryz.prog w=.ok (.slice A1 n1 c1) w:=(fun w=>by kernel_rfl);go_simp
 simp only[pX];refine WE.call (d:=some 7) rfl rfl (by rfl) (f:=68) (args:=#[(.slice A1 n1 c1)]) (by go_simp) ?_;refine(digitsNat_N (N:=Z.natAbs) R1.out HJ.out HT.out).mono ?_;rintro e wn ⟨rfl,hb⟩;refine⟨_,rfl,hb,?_⟩;replace E:=hid (E.out.trans hb);replace B1:=hid (B1.out.up hb);replace R:=hid (R.out.up hb);clear hb;simp only[pX];refine WE.pure (d:=some 3) rfl rfl (by rfl) (v:=(str (Lib.decDigits Z.natAbs))) (fun w' hk=>?_) ?_
 ·go_simp
 simp only[pX];refine WE.done ?_;go_upto_region 2 with (fail)
 refine wp_region_T [(0,0),(1,1),(2,0)] (by kernel_rfl) fun wd hb=>?_;replace E:=hid (E.out.trans hb);replace B1:=hid (B1.out.up hb);replace R:=hid (R.out.up hb);clear hb;refine WE.pure (d:=some 8) rfl rfl (by rfl) (v:=(.agg #[.bool g,.slice A n c])) (fun w' hk=>?_) ?_
 ·have c0:=hk.cell (B1.out.cell (o:=0) (v:=.bool g) rfl);have c1:=hk.cell (B1.out.cell (o:=1) (v:=.slice A n c) rfl);go_simp
 simp only[pX];refine WE.call (d:=some 9) rfl rfl (by rfl) (f:=70) (args:=#[(.agg #[.bool g,.slice A n c])]) (by go_simp) ?_;refine(sign_w R.out).mono ?_;rintro e wn ⟨rfl,hb⟩;refine⟨_,rfl,hb,?_⟩;replace E:=hid (E.out.trans hb);clear hb;simp only[pX];refine WE.pure (d:=some 10) rfl rfl (by rfl) (v:=(.bool false)) (fun w' hk=>?_) ?_
 ·have q:0≤Z:=(by have:=HZ.out;omega);go_simp
 simp only[pX];refine WE.done ?_;go_wp2;go_ret;refine⟨?_,E.out⟩;rw[M.print,if_neg (by have:=HZ.out;omega)];rfl
theorem print_w {w:World}{u:Value}{Z:Int}{j:Nat}(hu:Worth w u Z j)(hj:j≤1000000)(ht:Tab w): Calls Tryz.prog 38 #[u] w (GivesT w (M.print Z)):=by
 by_cases hz:Z<0
 ·exact print_neg hu hj ht hz
 ·exact print_pos hu hj ht hz
namespace M
open Go.Lib (decDigits nDigits)
end M
namespace M
open Go.Lib (decDigits nDigits)
end M
namespace M
open Go.Lib (decDigits nDigits)
def long (c:Nat): Nat→List UInt8
 | 0=>[UInt8.ofNat (49+c)]
 | j+1=>long c j++[UInt8.ofNat (48+(j+1)%10)]
end M
namespace M
open Go.Lib (decDigits nDigits)
end M
set_option linter.unusedSimpArgs false
set_option linter.unusedVariables false
open Go.RowKit
namespace M
open Go.Lib (decDigits nDigits)
theorem pad_add:∀(b a x y:Nat),y<10^b→pad (a+b) (x*10^b+y)=pad a x++pad b y
 | 0,a,x,y,h=>by
  have:y=0:=by simpa using h
  subst this;simp[pad]
 | b+1,a,x,y,h=>by
  rw[Nat.pow_succ] at h ⊢;have e:x*(10^b*10)=(x*10^b)*10:=by rw[Nat.mul_assoc]
  rw[e];show pad (a+b) ((x*10^b*10+y)/10)++[UInt8.ofNat (48+(x*10^b*10+y)%10)]=_;rw[show (x*10^b*10+y)/10=x*10^b+y/10 by omega,pad_add b a x (y/10) (by omega),show (x*10^b*10+y)%10=y%10 by omega,pad,List.append_assoc]
def Inn (x:Nat)(last:Bool)(k n:Nat)(p:List UInt8): Prop:=
 n=x/10^k∧k≤9∧(last=false∨0<n→p=pad k (x%10^k))∧(last=true→n=0→p=decDigits x)
theorem Inn.step {x:Nat}{last:Bool}{k n:Nat}{p:List UInt8}(h:Inn x last k n p)(hk:k<9)(hc:last=false∨0<n): Inn x last (k+1) (n/10) (UInt8.ofNat (48+n%10)::p):=by
 obtain⟨h1,h2,h3,h4⟩:=h;have hp:=h3 hc;have hlt:x%10^k<10^k:=Nat.mod_lt _ (Nat.pow_pos (by decide));have hx:x=n*10^k+x%10^k:=by rw[h1];have:=Nat.div_add_mod x (10^k);rw[Nat.mul_comm] at this;exact this.symm
 refine⟨by rw[h1,Nat.div_div_eq_div_mul,Nat.pow_succ],by omega,fun _=>?_,fun hl h0=>?_⟩
 ·have e:x%10^(k+1)=(n%10)*10^k+x%10^k:=by
   rw[Nat.mod_pow_succ,←h1,Nat.mul_comm,Nat.add_comm]
  rw[e,Nat.add_comm k 1,pad_add k 1 (n%10) _ hlt,hp];simp[pad]
 ·have hn:0<n:=by
   rcases hc with hc|hc
   ·rw[hc] at hl;cases hl
   ·exact hc
  have hn10:n<10:=by omega
  rw[hp]
  conv=>rhs;rw[hx]
  rw[dec_pad k n _ hn hlt,dec_small hn10,Nat.mod_eq_of_lt hn10];rfl
theorem Inn.last {x k n:Nat}{p:List UInt8}(h:Inn x true k n p)(hk:k=9∨n=0)(hx:x<1000000000): p=decDigits x:=by
 obtain⟨h1,h2,h3,h4⟩:=h;refine h4 rfl ?_;rcases hk with hk|hk
 ·subst hk;rw[h1];exact Nat.div_eq_of_lt (by omega)
 ·exact hk
def Out (l:List Nat)(i:Nat)(t:List UInt8): Prop:=(i<l.length→t=pad (9*i) (val (l.take i)))∧(i=l.length→t=decDigits (val l))
theorem Out.step {l:List Nat}(hs:small l=true)(hl:l.getLast?≠some 0){i x:Nat}{t p:List UInt8}(hx:l[i]?=some x)(h:Out l i t)(hp:(i+1=l.length→p=decDigits x)∧(i+1<l.length→p=pad 9 x)): Out l (i+1) (p++t):=by
 obtain⟨hlt,-⟩:=List.getElem?_eq_some_iff.1 hx;have ht:=h.1 hlt;have hv:=val_take hx;have hb:val (l.take i)<10^(9*i):=by
  have h1:=val_lt (l:=l.take i) (small_take hs i);rw[List.length_take,Nat.min_eq_left (by omega)] at h1;rw[Nat.pow_mul];exact h1
 have he:1000000000^i*x=x*10^(9*i):=by rw[Nat.pow_mul,Nat.mul_comm]
 rw[he] at hv;have hv:=hv.trans (Nat.add_comm _ _);refine⟨fun h1=>?_,fun h1=>?_⟩
 ·rw[hv,ht,hp.2 h1,show 9*(i+1)=9+9*i by omega,pad_add (9*i) 9 x _ hb]
 ·have hx0:0<x:=by
   rcases Nat.eq_zero_or_pos x with h0|h0
   ·exfalso;apply hl;rw[List.getLast?_eq_getElem?,show l.length-1=i by omega,hx,h0]
   ·exact h0
  rw[hp.1 h1,ht,←dec_pad (9*i) x _ hx0 hb,←hv,List.take_of_length_le (by omega)]
end M
theorem K.p1:M.pval [40,45,32,49,48,48,48,48,48,48,48,48,53,41]=-1000000005∧M.perr [40,45,32,49,48,48,48,48,48,48,48,48,53,41]=0:=by decide +kernel
theorem K.p2:M.pval [48,55]=0∧M.perr [48,55]=10:=by decide +kernel
theorem K.t1:M.print (-5)=[40,45,32,53,41]:=by
 rw[M.print,if_pos (by decide),show (-5:Int).natAbs=5 from rfl,M.dec_small (by decide)];rfl
theorem K.t2:Go.Lib.decDigits (M.nv [7,1])=[49,48,48,48,48,48,48,48,48,55]:=by
 rw[show M.nv [7,1]=1*10^9+7 by decide +kernel,M.dec_pad 9 1 7 (by decide) (by decide),M.dec_small (by decide)];decide +kernel
namespace M
end M
namespace M
def Ch (l:List UInt8)(zs:List Nat)(z:Int): Prop:=z=(l.length:Int)-9*(zs.length:Int)∧small zs=true∧val zs+1000000000^zs.length*num (l.take z.toNat)=num l
theorem Ch.step {l:List UInt8}(hd:l.all digit=true){zs:List Nat}{e:Nat}(h:Ch l zs (e:Int))(he:0<e){x:Nat}(hx:x=num ((l.drop (e-9)).take (e-(e-9)))):
 x<1000000000∧Ch l (zs++[x]) ((e:Int)-9):=by
 obtain⟨h1,h2,h3⟩:=h;have hel:e≤l.length:=by omega
 have hx9:x<1000000000:=by
  have h5:=num_lt (all_part hd (e-9) (e-(e-9)));rw[←hx] at h5;refine Nat.lt_of_lt_of_le h5 (show _≤10^9 from Nat.pow_le_pow_right (by decide) ?_);rw[List.length_take];omega
 refine⟨hx9,by rw[List.length_append,List.length_singleton,h1];omega,by rw[small_append];exact⟨h2,by simp[small];omega⟩,?_⟩;have h5:=chunk hel he (V:=val zs) (t:=zs.length) (by rw[←h3];simp);rw[←hx] at h5;rw[val_snoc,List.length_append,List.length_singleton,show ((e:Int)-9).toNat=e-9 by omega];exact h5
theorem Ch.done {l:List UInt8}{zs:List Nat}{z:Int}(h:Ch l zs z)(hz:z≤0): val zs=num l:=by
 obtain⟨h1,h2,h3⟩:=h;rw[show z.toNat=0 by omega] at h3;rw[←h3];simp[num]
end M
end Go.Proofs.YtoenjbkmiphhoaaGreatDoor
