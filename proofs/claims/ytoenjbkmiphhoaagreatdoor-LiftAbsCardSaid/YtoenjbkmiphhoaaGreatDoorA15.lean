/-
  Layer 10, the reference: the same integer, the same term.
-/
import Derived.Test.YtoenjbkmiphhoaaGreatDoorA14
import Derived.Test.YtoenjbkmiphhoaaGreatDoorA07
namespace Go.Proofs.YtoenjbkmiphhoaaGreatDoor.Q
set_option linter.unusedSimpArgs false
set_option linter.unusedVariables false
open Go.RowKit
theorem requal_n {w:World}{g g':Bool}{A A':Option Addr}{n c n' c':Nat}{ls ls':List Nat}(h:LNum w (.slice A n c) ls)(h':LNum w (.slice A' n' c') ls'): Calls Tryz.prog 30 #[.agg #[.bool g,.slice A n c],.agg #[.bool g',.slice A' n' c']] w (GivesB w (decide (g=g'∧ls=ls'))):=by
 by_cases hg:g=g'
 case neg=>
  have hr:decide (g=g'∧ls=ls')=false:=by simp[hg]
  rw[hr];have hb:(g==g')=false:=by simpa using hg
  clear h h' hr hg;go_enter Tryz.func30,Tryz.ntmps30
  go_wp2;go_ret;exact⟨rfl,(Ext.alloc w _).alloc' _⟩
 case pos=>
  subst hg;obtain⟨q,hq⟩:∃q,decide (ls=ls')=q:=⟨_,rfl⟩;have hr:decide (g=g∧ls=ls')=q:=by rw[←hq];simp
  rw[hr];have H:=hid (show ∀w',Ext w w'→Calls Tryz.prog 55 #[.slice A n c,.slice A' n' c'] w' (fun e w''=>e=.returned (.bool q)∧∃k,w''=w'.drewN k) from fun w' e=>by
   have:=same_any w' _ _ _ _ (h.up e) (h'.up e)
   rwa [hq] at this)
  clear h h' hr hq;go_enter Tryz.func30,Tryz.ntmps30
  go_wp2_with fail
  refine(H.out _ ((Ext.alloc w _).alloc' _)).mono ?_;rintro e w' ⟨rfl,k,rfl⟩;go_wp2_with fail
  go_ret;exact⟨by cases g<;>rfl,((Ext.alloc w _).alloc' _).drewN' k⟩
theorem alloc_two (w:World)(o o':Obj): Ext w ((w.alloc o).alloc o'):=(Ext.alloc w _).alloc' _
theorem kops {op:Int}(h:5≤op∧op≤22): op=5∨op=6∨op=7∨op=8∨op=9∨op=10∨op=11∨op=12∨op=13∨op=14∨op=15∨op=16∨op=17∨op=18∨op=19∨op=20∨op=21∨op=22:=by omega
theorem nat_is (n k:Nat): ((n:Int)==(k:Int))=decide (n=k):=by
 rw[Bool.eq_iff_iff];simp;omega
theorem dec_1 (n:Nat): decide ((1:Int)≤(n:Int))=decide (1≤n):=by rw[decide_eq_decide];omega
set_option maxHeartbeats 4000000 in
theorem kargs_n {op:Int}(h:5≤op∧op≤22)(n:Nat)(w:World): Calls Tryz.prog 81 #[.int .i64 op,.int .i64 (n:Int)] w (GivesB w (M.kargs op n)):=by
 have h1:=nat_is n 1;have h2:=nat_is n 2;have h3:=nat_is n 3;have h4:=dec_1 n;rcases kops h with rfl|rfl|rfl|rfl|rfl|rfl|rfl|rfl|rfl|rfl|rfl|rfl|rfl|rfl|rfl|rfl|rfl|rfl
 all_goals
  clear h;go_enter Tryz.func81,Tryz.ntmps81
  go_wp2;go_ret;refine⟨?_,Ext.refl _⟩
  first|rfl|(simp[M.kargs];done)|(simp[M.kargs];omega)|(simp[M.kargs,Bool.eq_iff_iff];omega)
set_option maxHeartbeats 4000000 in
theorem kall_n {l:List M.Tm}{v:Value}{w:World}(h:Tms w l v)(s:Int): Calls Tryz.prog 164 #[v,.int .i64 s] w (GivesB w (M.kall l s)):=by
 obtain⟨A,c,rfl⟩:=h.shape;obtain⟨hl1,hl2,hl3⟩:=h.le;obtain⟨n,hn'⟩:∃n,l.length=n:=⟨_,rfl⟩;rw[hn'] at h hl2 ⊢;have HK:=hid h;have HN:=hid hn';clear h hl1 hn';go_enter Tryz.func164,Tryz.ntmps164
 go_wp2_with fail
 go_loopw[5] (fun i wr=>∃(k:Nat),i=.int .i64 (k:Int)∧k≤n∧Hid (M.kall (l.take k) s=true∧w=wr)) (fun i _=>n-(intOf i).toNat)
 case atStart=>exact⟨0,rfl,Nat.zero_le _,by simp[M.kall],rfl⟩
 case round=>
  obtain⟨k,rfl,hk,hR⟩:=hrel;have HS:=hid hR.out.1;obtain rfl:=hR.out.2;clear hR;rcases Nat.lt_or_ge k n with hlt|hge
  ·have hlt':(k:Int)<(n:Int):=by omega
   obtain⟨ad,u,N',nn',nc',B,d,rfl,hu,⟨c0,c1,c2,c3,c4,c5⟩,hv⟩:=HK.out.get hlt;have HU:=hid hu;clear hu hv;obtain⟨z,hz⟩:∃z,u.sort=z:=⟨_,rfl⟩;rw[hz] at c4;have HZ:=hid hz;clear hz
   by_cases hq:z=s
   ·have hq2:(z != s)=false:=by simpa using hq
    have HS2:=hid (show M.kall (l.take (k+1)) s=true by rw[M.kall_take HU.out,HS.out,HZ.out,decide_eq_true hq];rfl);clear hq;go_wp2_with fail
    go_roundw
    case rel=>exact⟨k+1,by simp,by omega,HS2.out,by trivial⟩
    case measure=>simp[intOf];omega
   ·have hq2:(z != s)=true:=by simpa using hq
    have HS2:=hid (show M.kall l s=false from M.not_kall HU.out (by rw[HZ.out];exact hq));clear hq;go_wp2_with fail
    go_ret;rw[HS2.out];exact⟨rfl,Ext.refl _⟩
  ·obtain rfl:k=n:=by omega
   have HS2:=hid (show M.kall l s=true by have:=HS.out;rwa [←HN.out,List.take_length] at this);go_wp2;go_ret;rw[HS2.out];exact⟨rfl,Ext.refl _⟩
theorem addr_pos {ad:Addr}{n:Nat}(h:0<n): ad.add n=⟨ad.block,ad.off+n,none⟩:=by
 obtain⟨m,rfl⟩:∃m,n=m+1:=⟨n-1,by omega⟩;rfl
theorem Tms.at0 {w:World}{A:Option Addr}{n c:Nat}{l:List M.Tm}(h:Tms w l (.slice A n c))(hn:0<n): ∃ad N nn nc B d,A=some ad∧(w.cell? ad=some (.int .i64 (M.kat l 0).op)∧w.cell? ⟨ad.block,ad.off+1,none⟩=some (.bool (M.kat l 0).g)∧w.cell? ⟨ad.block,ad.off+2,none⟩=some (.slice N nn nc)∧w.cell? ⟨ad.block,ad.off+3,none⟩=some (str (M.kat l 0).name)∧w.cell? ⟨ad.block,ad.off+4,none⟩=some (.int .i64 (M.kat l 0).sort)∧w.cell? ⟨ad.block,ad.off+5,none⟩=some (.slice B (M.kat l 0).kids.length d))
 ∧ IsTm w (M.kat l 0) (kv (M.kat l 0).op (M.kat l 0).g N nn nc (M.kat l 0).name (M.kat l 0).sort B (M.kat l 0).kids.length d):=by
 obtain⟨ad,u,N,nn,nc,B,d,rfl,hu,⟨c0,c1,c2,c3,c4,c5⟩,hv⟩:=h.get hn;rw[Nat.zero_mul,Addr.add_zero'] at c0 c1 c2 c3 c4 c5;rw[M.kat_of hu];exact⟨ad,N,nn,nc,B,d,rfl,⟨c0,c1,c2,c3,c4,c5⟩,hv⟩
theorem Tms.at1 {w:World}{ad:Addr}{n c:Nat}{l:List M.Tm}(h:Tms w l (.slice (some ad) n c)){k m:Nat}(hm:k*6=m)(hk0:0<k)(hn:k<n): ∃N nn nc B d,(w.cell? ⟨ad.block,ad.off+m,none⟩=some (.int .i64 (M.kat l k).op)∧w.cell? ⟨ad.block,ad.off+m+1,none⟩=some (.bool (M.kat l k).g)∧w.cell? ⟨ad.block,ad.off+m+2,none⟩=some (.slice N nn nc)∧w.cell? ⟨ad.block,ad.off+m+3,none⟩=some (str (M.kat l k).name)∧w.cell? ⟨ad.block,ad.off+m+4,none⟩=some (.int .i64 (M.kat l k).sort)∧w.cell? ⟨ad.block,ad.off+m+5,none⟩=some (.slice B (M.kat l k).kids.length d))
 ∧ IsTm w (M.kat l k) (kv (M.kat l k).op (M.kat l k).g N nn nc (M.kat l k).name (M.kat l k).sort B (M.kat l k).kids.length d):=by
 obtain⟨ad',u,N,nn,nc,B,d,e,hu,⟨c0,c1,c2,c3,c4,c5⟩,hv⟩:=h.get hn;injection e with e;subst e;rw[M.kat_of hu];rw[addr_pos (show 0<k*6 by omega),hm] at c0 c1 c2 c3 c4 c5;exact⟨N,nn,nc,B,d,⟨c0,c1,c2,c3,c4,c5⟩,hv⟩
theorem kargs_len {op:Int}{n:Nat}(h:M.kargs op n=true): 1≤n∧(op=12→n=3)∧((op=15∨op=16∨op=17)→n=2):=by
 unfold M.kargs at h
 split at h
 ·have:=of_decide_eq_true h;exact⟨by omega,by omega,by omega⟩
 ·split at h
  ·have:=of_decide_eq_true h;exact⟨by omega,by omega,by omega⟩
  ·split at h
   ·have:=of_decide_eq_true h;exact⟨by omega,by omega,by omega⟩
   ·have:=of_decide_eq_true h;exact⟨by omega,by omega,by omega⟩
set_option maxHeartbeats 4000000 in
theorem kres_n {op:Int}(h:5≤op∧op≤22){l:List M.Tm}{v:Value}{w:World}(ht:Tms w l v)(ha:M.kargs op l.length=true): Calls Tryz.prog 83 #[.int .i64 op,v] w (fun e w'=>e=.returned (.int .i64 (M.kres op l))∧Ext w w'):=by
 obtain⟨A,c,rfl⟩:=ht.shape;obtain⟨hl1,hl2,hl3⟩:=ht.le;obtain⟨n,hn'⟩:∃n,l.length=n:=⟨_,rfl⟩;rw[hn'] at ht hl2 ha ⊢;have hlen:=(kargs_len ha).2.1
 by_cases h12:op=12
 ·subst h12;have h3:=hlen rfl;subst h3;obtain⟨ad,-,-,-,-,-,rfl,-,-⟩:=ht.at0 (by omega);obtain⟨N,nn,nc,B,d,⟨c0,c1,c2,c3,c4,c5⟩,hv⟩:=ht.at1 (k:=1) (m:=6) rfl (by omega) (by omega);obtain⟨z,hz⟩:∃z,(M.kat l 1).sort=z:=⟨_,rfl⟩;have HZ:=hid (show M.kres 12 l=z by rw[←hz];rfl);rw[hz] at c4;rw[HZ.out];clear hz ht hv ha hlen hl1 hn' h;go_enter Tryz.func83,Tryz.ntmps83
  go_wp2;go_ret;exact⟨rfl,Ext.refl _⟩
 ·clear hlen ha hl1 ht hn';rcases kops h with rfl|rfl|rfl|rfl|rfl|rfl|rfl|rfl|rfl|rfl|rfl|rfl|rfl|rfl|rfl|rfl|rfl|rfl
  all_goals try exact absurd rfl h12
  all_goals
   clear h h12;go_enter Tryz.func83,Tryz.ntmps83
   go_wp2;go_ret;exact⟨rfl,Ext.refl _⟩
theorem IsTm.num {w:World}{t:M.Tm}{op:Int}{g:Bool}{N:Option Addr}{nn nc:Nat}{nm:List UInt8}{s:Int}{A:Option Addr}{n c:Nat}(h:IsTm w t (kv op g N nn nc nm s A n c)): LNum w (.slice N nn nc) t.ls∧Tms w t.kids (.slice A n c):=by
 obtain⟨N',nn',nc',A',c',e,hn,hk⟩:=h;injection e with e;have e1:Value.slice N nn nc=.slice N' nn' nc':=by have:=congrArg (fun a=>a[2]?) e;simpa using this
 have e2:Value.slice A n c=.slice A' t.kids.length c':=by have:=congrArg (fun a=>a[5]?) e;simpa using this
 rw[e1,e2];exact⟨hn,hk⟩
def GivesNum (w:World)(t:M.Tm)(e:Ending)(w':World): Prop:=∃b A n c,e=.returned (.tuple #[.agg #[.bool b,.slice A n c],.bool (M.knum t).isSome])∧(∀z,M.knum t=some z→∃j,Worth w' (.agg #[.bool b,.slice A n c]) z j)∧Ext w w'
theorem worth_tm {w:World}{g:Bool}{N:Option Addr}{nn nc:Nat}{ls:List Nat}(h:LNum w (.slice N nn nc) ls): Worth w (.agg #[.bool g,.slice N nn nc]) (M.zv g ls) ls.length:=⟨g,N,nn,nc,ls,rfl,h,Nat.le_refl _,rfl⟩
theorem worth_up {w w':World}{v:Value}{Z:Int}{k:Nat}(h:Worth w v Z k)(e:Ext w w'): Worth w' v Z k:=Worth.up h e
theorem GivesNum.none_ {w w':World}{t:M.Tm}(h:M.knum t=none)(e:Ext w w'): GivesNum w t (.returned (.tuple #[.agg #[.bool false,.slice none 0 0],.bool false])) w':=by
 refine⟨false,none,0,0,by rw[h];rfl,?_,e⟩;intro z hz;rw[h] at hz;cases hz
theorem GivesNum.some_ {w w':World}{t:M.Tm}{b:Bool}{A:Option Addr}{n c:Nat}{z:Int}{j:Nat}(h:M.knum t=some z)(hw:Worth w' (.agg #[.bool b,.slice A n c]) z j)(e:Ext w w'): GivesNum w t (.returned (.tuple #[.agg #[.bool b,.slice A n c],.bool true])) w':=by
 refine⟨b,A,n,c,by rw[h];rfl,?_,e⟩;intro y hy;rw[h] at hy;injection hy with hy;subst hy;exact⟨j,hw⟩
theorem M.knum_mk (op:Int)(g:Bool)(ls:List Nat)(nm:List UInt8)(so:Int)(ks:List M.Tm): M.knum (.mk op g ls nm so ks)=if op=1 then some (M.zv g ls) else if op=14 then (match ks with|[k]=>if k.op=1 then some (-k.zv) else none|_=>none) else none:=rfl
theorem worth_set2 {w:World}{v:Value}{Z:Int}{k gb:Nat}{x y u u':Value}{T:TypeId}(h:Worth w v Z k)(hb:Box w gb #[x,y] T)(hno:noLimb #[x,y]=true): Worth ((w.setCell ⟨gb,0,none⟩ u).setCell ⟨gb,1,none⟩ u') v Z k:=
 Worth.kz h (keeps_store hb hno (kept_set u u'))
set_option maxHeartbeats 8000000 in
theorem knumber_n (t:M.Tm){v:Value}{w:World}(h:IsTm w t v): Calls Tryz.prog 104 #[v] w (GivesNum w t):=by
 obtain⟨op,g,ls,nm,so,ks⟩:=t;obtain⟨N,nn,nc,A,c,rfl,hn,hk⟩:=h;replace hk:Tms w ks (.slice A ks.length c):=hk;replace hn:LNum w (.slice N nn nc) ls:=hn;show Calls Tryz.prog 104 #[kv op g N nn nc nm so A ks.length c] w _;obtain⟨hl1,hl2,hl3⟩:=hk.le
 by_cases h1:op=1
 ·subst h1;have HW:=hid (worth_tm (g:=g) hn);clear hk hl1;go_enter Tryz.func104,Tryz.ntmps104
  go_wp2_with fail
  refine bodyPost_ret (v:=.tuple #[.agg #[.bool g,.slice N nn nc],.bool true]) (by simp[results,Tryz.results104,go_sem]) rfl ?_;exact GivesNum.some_ (by rw[M.knum_mk,if_pos rfl]) (worth_up HW.out (alloc_two w _ _)) (alloc_two w _ _)
 by_cases h14:op=14
 case neg=>
  have HZ:=hid (show M.knum (.mk op g ls nm so ks)=none by rw[M.knum_mk,if_neg h1,if_neg h14]);have hb1:(op==1)=false:=by simpa using h1
  have hb2:(op==14)=false:=by simpa using h14
  clear hk hn hl1 h1 h14;go_enter Tryz.func104,Tryz.ntmps104
  go_wp2_with fail
  refine bodyPost_ret (v:=.tuple #[.agg #[.bool false,.slice none 0 0],.bool false]) (by simp[results,Tryz.results104,go_sem]) rfl ?_;exact GivesNum.none_ HZ.out (alloc_two w _ _)
 case pos=>
 subst h14;obtain⟨n,hnn⟩:∃n,ks.length=n:=⟨_,rfl⟩
 by_cases hone:n=1
 case neg=>
  have HZ:=hid (show M.knum (.mk 14 g ls nm so ks)=none by
   rw[M.knum_mk,if_neg (by decide),if_pos rfl];rcases ks with _|⟨x,_|⟨y,r⟩⟩
   ·rfl
   ·simp at hnn;omega
   ·rfl)
  have hb2:((n:Int)==1)=false:=by simp;omega
  rw[hnn] at hk hl2 ⊢;clear hk hn hl1 h1 hnn hone;go_enter Tryz.func104,Tryz.ntmps104
  go_wp2_with fail
  refine bodyPost_ret (v:=.tuple #[.agg #[.bool false,.slice none 0 0],.bool false]) (by simp[results,Tryz.results104,go_sem]) rfl ?_;exact GivesNum.none_ HZ.out (alloc_two w _ _)
 case pos=>
 subst hone;obtain⟨x,rfl⟩:∃x,ks=[x]:=by
  rcases ks with _|⟨x,_|⟨y,r⟩⟩
  ·simp at hnn
  ·exact⟨x,rfl⟩
  ·simp at hnn
 replace hk:Tms w [x] (.slice A 1 c):=hk;show Calls Tryz.prog 104 #[kv 14 g N nn nc nm so A 1 c] w _;obtain⟨ad,N',nn',nc',B,d,rfl,⟨c0,c1,c2,c3,c4,c5⟩,hv⟩:=hk.at0 (by omega);have hx:M.kat [x] 0=x:=rfl;rw[hx] at c0 c1 c3 c4 c5 hv;have hn':=hv.num.1;obtain⟨o',ho'⟩:∃o',x.op=o':=⟨_,rfl⟩;obtain⟨g',hg'⟩:∃g',x.g=g':=⟨_,rfl⟩;rw[ho'] at c0;rw[hg'] at c1;have hnz:M.knum (.mk 14 g ls nm so [x])=if o'=1 then some (-M.zv g' x.ls) else none:=by
  rw[←ho',←hg'];rfl
 have HW:=hid (worth_tm (g:=g') hn');have HNZ:=hid hnz;have f0:=fun o o'=>(alloc_two w o o').cell c0;have f1:=fun o o'=>(alloc_two w o o').cell c1;have f2:=fun o o'=>(alloc_two w o o').cell c2;clear hk hl1 h1 hnn hn hv hx hn' hnz ho' hg' c0 c1 c2 c3 c4 c5
 by_cases ho1:o'=1
 ·subst ho1;have HC:=hid (show ∀w',Ext w w'→Calls Tryz.prog 129 #[.agg #[.bool g',.slice N' nn' nc']] w' (GivesZ w' (-M.zv g' x.ls) x.ls.length) from fun w' e=>rNeg_w (worth_up HW.out e));go_enter Tryz.func104,Tryz.ntmps104
  go_wp2_with fail
  refine(HC.out _ (by repeat (first|exact Ext.refl _|apply Ext.set' (hp:=by simp)|apply Ext.alloc'))).mono ?_;rintro e w2 ⟨v2,rfl,hv2,hb⟩;obtain⟨g2,A2,n2,c2',rfl⟩:=hv2.worth.shape;have E2:=hid (show Ext w w2 from Ext.trans (by repeat (first|exact Ext.refl _|apply Ext.set' (hp:=by simp)|apply Ext.alloc')) hb);have hbx:=(show Ext ((w.alloc (.cells #[.int .i64 14,.bool g,.slice N nn nc,str nm,.int .i64 so,.slice (some ad) 1 c] 27)).alloc (.cells #[.bool false,.slice none 0 0] 24)) w2 from hb);have HB:=hid ((Box.at_ (w:=w.alloc (.cells #[.int .i64 14,.bool g,.slice N nn nc,str nm,.int .i64 so,.slice (some ad) 1 c] 27)) (g:=w.heap.size+1) #[.bool false,.slice none 0 0] 24 (by simp)).up hbx);have r0:w2.cell? ⟨w.heap.size+1,0,none⟩=some (.bool false):=HB.out.k 0;have r1:w2.cell? ⟨w.heap.size+1,1,none⟩=some (.slice none 0 0):=HB.out.k 1;have f0:=HB.out.free 0;have f1:=HB.out.free 1;have hlt2:=HB.out.lt;have HV2:=hid hv2.worth;clear hv2 hb hbx;go_wp2_with fail
  refine bodyPost_ret (v:=.tuple #[.agg #[.bool g2,.slice A2 n2 c2'],.bool true]) (by simp[results,Tryz.results104,go_sem,hlt2,r0,r1]) rfl ?_;have hE:Ext w ((w2.setCell ⟨w.heap.size+1,0,none⟩ (.bool g2)).setCell ⟨w.heap.size+1,1,none⟩ (.slice A2 n2 c2')):=(E2.out.set' (by show w.heap.size≤w.heap.size+1;omega) _).set' (by show w.heap.size≤w.heap.size+1;omega) _;exact GivesNum.some_ (by rw[HNZ.out,if_pos trivial]) (worth_set2 HV2.out HB.out rfl) hE
 ·have HZ:=hid (show M.knum (.mk 14 g ls nm so [x])=none by rw[HNZ.out,if_neg ho1]);have hb1:(o'==1)=false:=by simpa using ho1
  clear ho1;go_enter Tryz.func104,Tryz.ntmps104
  go_wp2_with fail
  refine bodyPost_ret (v:=.tuple #[.agg #[.bool false,.slice none 0 0],.bool false]) (by simp[results,Tryz.results104,go_sem]) rfl ?_;exact GivesNum.none_ HZ.out (alloc_two w _ _)
set_option maxHeartbeats 8000000 in
theorem ksorted_n {op:Int}(h:5≤op∧op≤22){l:List M.Tm}{v:Value}{w:World}(ht:Tms w l v)(ha:M.kargs op l.length=true): Calls Tryz.prog 126 #[.int .i64 op,v] w (GivesB w (M.ksorted op l)):=by
 obtain⟨A,c,rfl⟩:=ht.shape;obtain⟨hl1,hl2,hl3⟩:=ht.le;have hlen:=kargs_len ha;obtain⟨n,hn'⟩:∃n,l.length=n:=⟨_,rfl⟩;rw[hn'] at ht hl2 hlen ⊢;obtain⟨hn1,hn3,-⟩:=hlen;obtain⟨ad,N0,nn0,nc0,B0,d0,rfl,⟨c0,c1,c2,c3,c4,c5⟩,hv0⟩:=ht.at0 (by omega);rcases (show (op=5∨op=6∨op=7∨op=8∨op=9)∨(op=10∨op=11)∨op=12∨(op=13∨op=14∨op=15∨op=16∨op=17∨op=18∨op=19∨op=20∨op=21∨op=22) by omega) with hop|hop|rfl|hop
 ·obtain⟨b,hb⟩:∃b,M.kall l 1=b:=⟨_,rfl⟩;have HC:=hid (kall_n ht 1);rw[hb] at HC;have HR:=hid (show M.ksorted op l=b by unfold M.ksorted;rw[if_pos hop,hb]);rw[HR.out];clear hb ht ha hl1 hn' hn1 hn3 c0 c1 c2 c3 c4 c5 hv0 HR h;rcases hop with rfl|rfl|rfl|rfl|rfl
  all_goals
   go_enter Tryz.func126,Tryz.ntmps126
   go_wp2_with fail
   refine HC.out.mono ?_;rintro e w' ⟨rfl,hx⟩;go_wp2_with fail
   go_ret;exact⟨rfl,hx⟩
 ·obtain⟨z,hz⟩:∃z,(M.kat l 0).sort=z:=⟨_,rfl⟩;obtain⟨b,hb⟩:∃b,M.kall l z=b:=⟨_,rfl⟩;have HC:=hid (kall_n ht z);rw[hb] at HC;have HR:=hid (show M.ksorted op l=b by unfold M.ksorted;rw[if_neg (by omega),if_neg (by omega),if_pos hop,hz,hb]);rw[HR.out];rw[hz] at c4;clear hb ht ha hl1 hn' hn3 c0 c1 c2 c3 c5 hv0 HR h hz;have hn0:(0:Int)<(n:Int):=by omega
  rcases hop with rfl|rfl
  all_goals
   go_enter Tryz.func126,Tryz.ntmps126
   go_wp2_with fail
   refine HC.out.mono ?_;rintro e w' ⟨rfl,hx⟩;go_wp2_with fail
   go_ret;exact⟨rfl,hx⟩
 ·obtain rfl:=hn3 rfl;obtain⟨N1,nn1,nc1,B1,d1,⟨p0,p1,p2,p3,p4,p5⟩,-⟩:=ht.at1 (k:=1) (m:=6) rfl (by omega) (by omega);obtain⟨N2,nn2,nc2,B2,d2,⟨q0,q1,q2,q3,q4,q5⟩,-⟩:=ht.at1 (k:=2) (m:=12) rfl (by omega) (by omega);obtain⟨x,hx⟩:∃x,(M.kat l 0).sort=x:=⟨_,rfl⟩;obtain⟨y,hy⟩:∃y,(M.kat l 1).sort=y:=⟨_,rfl⟩;obtain⟨z,hz⟩:∃z,(M.kat l 2).sort=z:=⟨_,rfl⟩;have hr:M.ksorted 12 l=(decide (x=1)&&decide (y=z)):=by rw[←hx,←hy,←hz];rfl
  rw[hr];rw[hx] at c4;rw[hy] at p4;rw[hz] at q4;clear ht ha hl1 hn' c0 c1 c2 c3 c5 hv0 h hx hy hz p0 p1 p2 p3 p5 q0 q1 q2 q3 q5 hr
  by_cases h1:x=1
  ·subst h1;go_enter Tryz.func126,Tryz.ntmps126
   go_wp2_with fail
   go_region
   go_wp2_with fail
   go_ret;exact⟨by by_cases hyz:y=z<;>simp[hyz],(Ext.refl _).drewN' 1⟩
  ·have hq:(x==1)=false:=by simpa using h1
   go_enter Tryz.func126,Tryz.ntmps126
   go_wp2_with fail
   go_region
   go_wp2_with fail
   go_ret;exact⟨by rw[decide_eq_false h1];rfl,(Ext.refl _).drewN' 1⟩
 ·obtain⟨b,hb⟩:∃b,M.kall l 2=b:=⟨_,rfl⟩;have HC:=hid (kall_n ht 2);rw[hb] at HC;have HR:=hid (show M.ksorted op l=b by unfold M.ksorted;rw[if_neg (by omega),if_neg (by omega),if_neg (by omega),hb]);rw[HR.out];clear hb ht ha hl1 hn' hn1 hn3 c0 c1 c2 c3 c4 c5 hv0 HR h;rcases hop with rfl|rfl|rfl|rfl|rfl|rfl|rfl|rfl|rfl|rfl
  all_goals
   go_enter Tryz.func126,Tryz.ntmps126
   go_wp2_with fail
   refine HC.out.mono ?_;rintro e w' ⟨rfl,hx⟩;go_wp2_with fail
   go_ret;exact⟨rfl,hx⟩
abbrev GivesN (w:World)(z:Int)(e:Ending)(w':World): Prop:=e=.returned (.int .i64 z)∧Ext w w'
set_option maxHeartbeats 8000000 in
theorem klin_n {op:Int}(h:5≤op∧op≤22){l:List M.Tm}{v:Value}{w:World}(ht:Tms w l v)(ha:M.kargs op l.length=true): Calls Tryz.prog 127 #[.int .i64 op,v] w (GivesN w (M.klin op l)):=by
 obtain⟨A,c,rfl⟩:=ht.shape;obtain⟨hl1,hl2,hl3⟩:=ht.le;have hlen:=kargs_len ha;obtain⟨n,hn'⟩:∃n,l.length=n:=⟨_,rfl⟩;rw[hn'] at ht hl2 hlen ⊢;obtain⟨hn1,-,hn2⟩:=hlen;obtain⟨ad,N0,nn0,nc0,B0,d0,rfl,⟨c0,c1,c2,c3,c4,c5⟩,hv0⟩:=ht.at0 (by omega);rcases (show op=15∨(op=16∨op=17)∨(op=5∨op=6∨op=7∨op=8∨op=9∨op=10∨op=11∨op=12∨op=13∨op=14∨op=18∨op=19∨op=20∨op=21∨op=22) by omega) with rfl|hop|hop
 ·obtain rfl:=hn2 (.inl rfl);obtain⟨N1,nn1,nc1,B1,d1,⟨p0,p1,p2,p3,p4,p5⟩,hv1⟩:=ht.at1 (k:=1) (m:=6) rfl (by omega) (by omega);have H0:=hid (show ∀w',Ext w w'→Calls Tryz.prog 104 #[kv (M.kat l 0).op (M.kat l 0).g N0 nn0 nc0 (M.kat l 0).name (M.kat l 0).sort B0 (M.kat l 0).kids.length d0] w' (GivesNum w' (M.kat l 0)) from fun w' e=>knumber_n _ (hv0.up e));have H1:=hid (show ∀w',Ext w w'→Calls Tryz.prog 104 #[kv (M.kat l 1).op (M.kat l 1).g N1 nn1 nc1 (M.kat l 1).name (M.kat l 1).sort B1 (M.kat l 1).kids.length d1] w' (GivesNum w' (M.kat l 1)) from fun w' e=>knumber_n _ (hv1.up e));obtain⟨o0,ho0⟩:∃o,(M.knum (M.kat l 0)).isSome=o:=⟨_,rfl⟩;obtain⟨o1,ho1⟩:∃o,(M.knum (M.kat l 1)).isSome=o:=⟨_,rfl⟩;have HR:=hid (show M.klin 15 l=if (!o0&&!o1)=true then 19 else 0 by
   rw[←ho0,←ho1];unfold M.klin;rw[if_pos rfl];cases M.knum (M.kat l 0)<;>cases M.knum (M.kat l 1)<;>rfl)
  have HO0:=hid ho0;have HO1:=hid ho1;rw[HR.out];clear ht ha hl1 hn' hv0 hv1 h ho0 ho1 hn2 HR;cases o0<;>cases o1
  all_goals
   go_enter Tryz.func127,Tryz.ntmps127
   go_wp2_with fail
   refine(H0.out _ (Ext.refl _)).mono ?_;rintro e w1 ⟨b,A1,n1,c1',rfl,-,hx⟩;rw[HO0.out];have E:=hid hx;replace p0:=fun o=>(Ext.alloc w1 o).cell (hx.cell p0);replace p1:=fun o=>(Ext.alloc w1 o).cell (hx.cell p1);replace p2:=fun o=>(Ext.alloc w1 o).cell (hx.cell p2);replace p3:=fun o=>(Ext.alloc w1 o).cell (hx.cell p3);replace p4:=fun o=>(Ext.alloc w1 o).cell (hx.cell p4);replace p5:=fun o=>(Ext.alloc w1 o).cell (hx.cell p5);clear hx c0 c1 c2 c3 c4 c5;go_wp2_with fail
   refine(H1.out _ (E.out.trans (Ext.alloc _ _))).mono ?_;rintro e w2 ⟨b2,A2,n2,c2',rfl,-,hx⟩;rw[HO1.out];replace E:=hid (show Ext w w2 from(E.out.trans (Ext.alloc _ _)).trans hx);clear hx p0 p1 p2 p3 p4 p5;go_wp2_with fail
   go_ret;exact⟨rfl,E.out.alloc' _⟩
 ·obtain rfl:=hn2 (.inr hop);obtain⟨N1,nn1,nc1,B1,d1,⟨p0,p1,p2,p3,p4,p5⟩,hv1⟩:=ht.at1 (k:=1) (m:=6) rfl (by omega) (by omega);have H1:=hid (show ∀w',Ext w w'→Calls Tryz.prog 104 #[kv (M.kat l 1).op (M.kat l 1).g N1 nn1 nc1 (M.kat l 1).name (M.kat l 1).sort B1 (M.kat l 1).kids.length d1] w' (GivesNum w' (M.kat l 1)) from fun w' e=>knumber_n _ (hv1.up e));have HR:=hid (show M.klin op l=(match M.knum (M.kat l 1) with|none=>19|some z=>if z=0 then 12 else 0) by unfold M.klin;rw[if_neg (by omega),if_pos hop];rfl);clear ht ha hl1 hn' hv0 hv1 h hn2 c0 c1 c2 c3 c4 c5;rcases hq:M.knum (M.kat l 1) with _|z
  ·have HQ:=hid hq;have HR2:=hid (show M.klin op l=19 by rw[HR.out,hq]);rw[HR2.out];clear hq HR HR2;rcases hop with rfl|rfl
   all_goals
    go_enter Tryz.func127,Tryz.ntmps127
    go_wp2_with fail
    refine(H1.out _ (Ext.refl _)).mono ?_;rintro e w1 ⟨b,A1,n1,c1',rfl,-,hx⟩;rw[HQ.out];have E:=hid hx;clear hx p0 p1 p2 p3 p4 p5;simp only[Option.isSome_none];go_wp2_with fail
    go_ret;exact⟨rfl,E.out.alloc' _⟩
  ·have HQ:=hid hq;have HR2:=hid (show M.klin op l=if z=0 then 12 else 0 by rw[HR.out,hq]);rw[HR2.out];clear hq HR HR2;obtain⟨sg,hsg⟩:∃sg,z.sign=sg:=⟨_,rfl⟩;have HS:=hid (show (if z=0 then (12:Int) else 0)=if sg=0 then 12 else 0 by rw[←hsg];simp only[Int.sign_eq_zero_iff_zero]);have HSG:=hid hsg;rw[HS.out];clear hsg
   by_cases hs0:sg=0
   ·subst hs0;rw[if_pos rfl];rcases hop with rfl|rfl
    all_goals
     go_enter Tryz.func127,Tryz.ntmps127
     go_wp2_with fail
     refine(H1.out _ (Ext.refl _)).mono ?_;rintro e w1 ⟨b,A1,n1,c1',rfl,hwz,hx⟩;rw[HQ.out];obtain⟨j,hj⟩:=hwz z HQ.out;have E:=hid hx;have HJ:=hid (show ∀w',Ext w1 w'→Calls Tryz.prog 60 #[.agg #[.bool b,.slice A1 n1 c1']] w' (GivesN w' 0) from fun w' e=>rSign_w (worth_up hj e) HSG.out);clear hx p0 p1 p2 p3 p4 p5 hwz hj;simp only[Option.isSome_some];go_wp2_with fail
     refine(HJ.out _ (Ext.alloc _ _)).mono ?_;rintro e w2 ⟨rfl,hx⟩;replace E:=hid (show Ext w w2 from(E.out.alloc' _).trans hx);clear hx;go_wp2_with fail
     go_ret;exact⟨rfl,E.out⟩
   ·rw[if_neg hs0];have hs1:(sg==0)=false:=by simpa using hs0
    clear hs0 HS;rcases hop with rfl|rfl
    all_goals
     go_enter Tryz.func127,Tryz.ntmps127
     go_wp2_with fail
     refine(H1.out _ (Ext.refl _)).mono ?_;rintro e w1 ⟨b,A1,n1,c1',rfl,hwz,hx⟩;rw[HQ.out];obtain⟨j,hj⟩:=hwz z HQ.out;have E:=hid hx;have HJ:=hid (show ∀w',Ext w1 w'→Calls Tryz.prog 60 #[.agg #[.bool b,.slice A1 n1 c1']] w' (GivesN w' sg) from fun w' e=>rSign_w (worth_up hj e) HSG.out);clear hx p0 p1 p2 p3 p4 p5 hwz hj;simp only[Option.isSome_some];go_wp2_with fail
     refine(HJ.out _ (Ext.alloc _ _)).mono ?_;rintro e w2 ⟨rfl,hx⟩;replace E:=hid (show Ext w w2 from(E.out.alloc' _).trans hx);clear hx;go_wp2_with fail
     go_ret;exact⟨rfl,E.out⟩
 ·have HR:=hid (show M.klin op l=0 by unfold M.klin;rw[if_neg (by omega),if_neg (by omega)]);rw[HR.out];clear HR ht ha hl1 hn' hv0 h hn2 c0 c1 c2 c3 c4 c5;rcases hop with rfl|rfl|rfl|rfl|rfl|rfl|rfl|rfl|rfl|rfl|rfl|rfl|rfl|rfl|rfl
  all_goals
   go_enter Tryz.func127,Tryz.ntmps127
   go_wp2;go_ret;exact⟨rfl,Ext.refl _⟩
theorem IsTm.row {w:World}{l:List M.Tm}{A:Option Addr}{n c:Nat}(ht:Tms w l (.slice A n c)): IsTm w (.mk 0 false [] [] 0 l) (kv 0 false none 0 0 [] 0 A n c):=by
 have hn:=ht.le.1;subst hn;exact⟨none,0,0,A,c,rfl,LNum.nil w,ht⟩
set_option maxHeartbeats 8000000 in
theorem kcheck_n {op:Int}(h:5≤op∧op≤22){l:List M.Tm}{v:Value}{w:World}(ht:Tms w l v)(ha:M.kargs op l.length=true): Calls Tryz.prog 82 #[.int .i64 op,v] w (GivesN w (M.kcheck op l)):=by
 have HS:=hid (ksorted_n h ht ha);have HL:=hid (show ∀w',Ext w w'→Calls Tryz.prog 127 #[.int .i64 op,v] w' (GivesN w' (M.klin op l)) from fun w' e=>klin_n h (ht.up e) ha);obtain⟨A,c,rfl⟩:=ht.shape;obtain⟨n,hn'⟩:∃n,l.length=n:=⟨_,rfl⟩;rw[hn'] at ht HS HL ⊢;obtain⟨m,hm⟩:∃m,min (1+M.kcnts l) 401=m:=⟨_,rfl⟩;have HC:=hid (show ∀w',Ext w w'→Calls Tryz.prog 32 #[kv 0 false none 0 0 [] 0 A n c] w' (GivesN w' (m:Int)) from fun w' e=>by
  have:=rkCount_n _ (IsTm.row (ht.up e));rw[M.kcnt,hm] at this;exact this)
 obtain⟨b,hb⟩:∃b,M.ksorted op l=b:=⟨_,rfl⟩;obtain⟨x,hx⟩:∃x,M.klin op l=x:=⟨_,rfl⟩;have hr:M.kcheck op l=if b=false then 17 else if x≠0 then x else if 400<m then 11 else 0:=by
  unfold M.kcheck;rw[hb,hx];have h4:400<1+M.kcnts l↔400<m:=by omega
  by_cases h5:400<m
  ·rw[if_pos (h4.2 h5),if_pos h5]
  ·rw[if_neg (fun h6=>h5 (h4.1 h6)),if_neg h5]
 rw[hb] at HS;rw[hx] at HL;rw[hr];clear ht hn' hb hx hr ha h hm;cases b
 ·rw[if_pos rfl];go_enter Tryz.func82,Tryz.ntmps82
  go_wp2_with fail
  refine HS.out.mono ?_;rintro e w1 ⟨rfl,hb⟩;go_wp2_with fail
  go_ret;exact⟨rfl,hb⟩
 rw[if_neg (by decide)]
 by_cases hx0:x=0
 case neg=>
  have hq:(x != 0)=true:=by simpa using hx0
  rw[if_pos hx0];clear hx0;go_enter Tryz.func82,Tryz.ntmps82
  go_wp2_with fail
  refine HS.out.mono ?_;rintro e w1 ⟨rfl,hb⟩;have E:=hid hb;clear hb;go_wp2_with fail
  refine(HL.out _ E.out).mono ?_;rintro e w2 ⟨rfl,hb⟩;replace E:=hid (E.out.trans hb);clear hb;go_wp2_with fail
  go_ret;exact⟨rfl,E.out⟩
 case pos=>
 subst hx0;rw[if_neg (by decide)]
 by_cases hm:400<m
 ·have hq:(400:Int)<(m:Int):=by omega
  rw[if_pos hm];clear hm;go_enter Tryz.func82,Tryz.ntmps82
  go_wp2_with fail
  refine HS.out.mono ?_;rintro e w1 ⟨rfl,hb⟩;have E:=hid hb;clear hb;go_wp2_with fail
  refine(HL.out _ E.out).mono ?_;rintro e w2 ⟨rfl,hb⟩;replace E:=hid (E.out.trans hb);clear hb;go_wp2_with fail
  refine(HC.out _ E.out).mono ?_;rintro e w3 ⟨rfl,hb⟩;replace E:=hid (E.out.trans hb);clear hb;go_wp2_with fail
  go_ret;exact⟨rfl,E.out⟩
 ·have hq:decide ((400:Int)<(m:Int))=false:=by simp;omega
  rw[if_neg hm];clear hm;go_enter Tryz.func82,Tryz.ntmps82
  go_wp2_with fail
  refine HS.out.mono ?_;rintro e w1 ⟨rfl,hb⟩;have E:=hid hb;clear hb;go_wp2_with fail
  refine(HL.out _ E.out).mono ?_;rintro e w2 ⟨rfl,hb⟩;replace E:=hid (E.out.trans hb);clear hb;go_wp2_with fail
  refine(HC.out _ E.out).mono ?_;rintro e w3 ⟨rfl,hb⟩;replace E:=hid (E.out.trans hb);clear hb;go_wp2_with fail
  go_ret;exact⟨rfl,E.out⟩
end Go.Proofs.YtoenjbkmiphhoaaGreatDoor.Q
