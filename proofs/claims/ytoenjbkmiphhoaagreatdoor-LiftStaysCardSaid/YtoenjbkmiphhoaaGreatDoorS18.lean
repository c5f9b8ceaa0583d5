/-
  Layer 12, mathematics: structures, what terms are worth.
-/
import Derived.Test.YtoenjbkmiphhoaaGreatDoorS17
namespace Go.Proofs.YtoenjbkmiphhoaaGreatDoor.Q
set_option linter.unusedSimpArgs false
set_option linter.unusedVariables false
namespace M
abbrev Vl:=Int×Bool×List Nat
def cz (x:Vl): Int:=M.zv x.2.1 x.2.2
def vz (s Z:Int): Vl:=(s,decide (Z<0),M.limbs Z.natAbs)
theorem cz_vz (s Z:Int): cz (vz s Z)=Z:=M.zv_of Z
def canon (x:Vl): Prop:=x.2.1=decide (cz x<0)∧x.2.2=M.limbs (cz x).natAbs
theorem canon_isZ {x:Vl}(h:M.isZ x.2.1 x.2.2=true): canon x:=⟨(M.zv_lt h).symm,(M.limbs_zv h).symm⟩
def vSame (x y:Vl): Bool:=decide (x.1=y.1)&&decide (cz x=cz y)
def vSames:List Vl→List Vl→Bool
 | [],[]=>true
 | x::r,y::s=>vSame x y&&vSames r s
 | _,_=>false
def vIs (x:Vl)(s:Int): Bool:=decide (x.1=s)&&(M.isZ x.2.1 x.2.2&&(decide (s=2)||(decide (cz x=0)||decide (cz x=1))))
def vIss:List Vl→List Int→Bool
 | [],[]=>true
 | x::r,s::q=>vIs x s&&vIss r q
 | _,_=>false
structure Fn where
 sg:Sg
 rows:List (List Vl×Vl)
 els:Vl
def fnIs (f:Fn): Bool:=ksig f.sg&&(vIs f.els f.sg.ret&&f.rows.all fun r=>vIss r.1 f.sg.args&&vIs r.2 f.sg.ret)
def okAt (l:List Fn)(k:Nat): Bool:=match l[k]? with|none=>true|some f=>(decide (k=0)||(match l[k-1]? with|none=>true|some g=>Go.Op.bytesLess g.sg.name f.sg.name))&&fnIs f
def mIs (l:List Fn): Bool:=(List.range l.length).all (okAt l)
theorem mIs_true {l:List Fn}: mIs l=true↔∀k,k<l.length→okAt l k=true:=by
 unfold mIs
 rw[List.all_eq_true]
 simp
theorem not_mIs {l:List Fn}{k:Nat}(hk:k<l.length)(h:okAt l k=false): mIs l=false:=by
 rcases hq:mIs l with _|_
 ·rfl
 ·rw[mIs_true.1 hq k hk] at h;cases h
def mRead (m:List Fn): List Fn:=if mIs m=true then m else[]
def mOf (m:List Fn)(s:Sg)(l:List Vl): Vl:=
 match m.find? fun f=>decide (f.sg=s) with
 | none=>(s.ret,false,[])
 | some f=>match f.rows.find? fun r=>vSames r.1 l with
  | some r=>r.2
  | none=>f.els
def mSum (l:List Int): Int:=l.foldl (·+·) 0
def mReck (op:Int)(l:List Int): Int:=
 if op=13 then mSum l else if op=14 then (match l with|[]=>0|[a]=>-a|a::r=>a-mSum r)
 else if op=15 then l.getD 0 0*l.getD 1 0 else if op=18 then ((l.getD 0 0).natAbs:Int)
 else if op=16 then (l.getD 0 0)/(l.getD 1 0) else (l.getD 0 0)%(l.getD 1 0)
def vHolds (x:Vl): Bool:=decide (0<cz x)
def vDist:List Vl→Bool
 | []=>true
 | x::r=>!(r.any fun y=>vSame x y)&&vDist r
def mTold (op:Int)(v:List Vl): Bool:=
 let x:=v.getD 0 (0,false,[])
 let y:=v.getD 1 (0,false,[])
 if op=5 then !vHolds x else if op=6 then v.all vHolds else if op=7 then v.any vHolds else if op=9 then !vHolds x||vHolds y
 else if op=10 then vSame x y else if op=8∨op=11 then vDist v
 else if op=19 then decide (cz x≤cz y) else if op=20 then decide (cz x<cz y) else if op=21 then decide (cz y≤cz x) else decide (cz y<cz x)
def vTruth (b:Bool): Vl:=if b=true then vz 1 1 else (1,false,[])
mutual
def ev (m:List Fn): Tm→Vl
 | .mk op g ls nm s ks=>
  if op=1 then (2,g,ls) else if op=2 then vTruth true else if op=3 then vTruth false
  else if op=4 then mOf m ⟨nm,(evs m ks).map (·.1),s⟩ (evs m ks)
  else if op=12 then (if vHolds ((evs m ks).getD 0 (0,false,[]))=true then (evs m ks).getD 1 (0,false,[]) else (evs m ks).getD 2 (0,false,[]))
  else if s=2 then vz 2 (mReck op ((evs m ks).map cz)) else vTruth (mTold op (evs m ks))
def evs (m:List Fn): List Tm→List Vl
 | []=>[]
 | t::r=>ev m t::evs m r
end
theorem evs_map (m:List Fn): ∀l,evs m l=l.map (ev m)
 | []=>rfl
 | t::r=>by rw[evs,List.map_cons,evs_map m r]
def mEval (m:List Fn)(t:Tm): Vl:=if kIs t=true then ev (mRead m) t else (1,false,[])
def mPut (m:List Fn)(f:Fn): List Fn:=(m.takeWhile fun g=>Go.Op.bytesLess g.sg.name f.sg.name)++f::((m.dropWhile fun g=>Go.Op.bytesLess g.sg.name f.sg.name).dropWhile fun g=>decide (g.sg.name=f.sg.name))
end M
set_option linter.unusedSimpArgs false
set_option linter.unusedVariables false
open Go.RowKit
namespace M
def n0T:Tm:=.mk 1 false [] [] 2 []
theorem limbs0:M.limbs 0=[]:=by rw[M.limbs];rfl
theorem knumT0:knumT 0=n0T:=by
 show Tm.mk 1 (decide ((0:Int)<0)) (M.limbs 0) [] 2 []=_
 rw[limbs0];rfl
theorem isZ_nil:M.isZ false []=true:=by decide
theorem zv_nil:M.zv false []=0:=by decide
end M
namespace M
mutual
theorem ksame_refl:∀(t:Tm),ksame t t=true
 | .mk op g ls nm so ks=>by
  rw[ksame]
  simp[Tm.op,Tm.g,Tm.ls,Tm.name,Tm.sort,Tm.kids,ksames_refl ks]
theorem ksames_refl:∀(ks:List Tm),ksames ks ks=true
 | []=>by rw[ksames]
 | t::r=>by rw[ksames,ksame_refl t,ksames_refl r];rfl
end
end M
theorem rkSame_t {t:M.Tm}{v v':Value}{w:World}(h:IsTm w t v)(h':IsTm w t v'): Calls Tryz.prog 14 #[v,v'] w (GivesB w true):=M.ksame_refl t▸rkSame_n t h h'
section
variable {P:Program} {ops:Array Oper} {Q:Exit→Act→World→Prop} {A:Nat→TypeId×Array Value} {B:Nat} {i:Nat} {r:List (Nat×Nat)} {G:List Nat} {a:Act} {w:World} {d:Option Tmp}
end
theorem tmAt_of {w:World}{t:M.Tm}{op:Int}{g:Bool}{N A:Option Addr}{nn nc n c:Nat}{nm:List UInt8}{so:Int}{a:Addr}(h:IsTm w t (kv op g N nn nc nm so A n c))(hc:Cell6 w a op g (.slice N nn nc) nm so (.slice A n c)): TmAt w t a:=by
 obtain⟨o',g',ls,nm',so',ks⟩:=t
 obtain⟨N',nn',nc',A',c',e,h2,h3⟩:=h
 simp only[kv,Value.agg.injEq,Array.mk.injEq,List.cons.injEq,and_true,Value.int.injEq,Value.bool.injEq,Value.slice.injEq,true_and] at e
 obtain⟨e1,e2,⟨e3,e4,e5⟩,e6,e7,e8,e9,e10⟩:=e
 subst e3 e4 e5 e8 e9 e10
 refine tmAt_mk.2 ⟨N,nn,nc,_,?_,h2,h3⟩
 rw[show o'=op from e1.symm,show g'=g from e2.symm,show so'=so from e7.symm]
 unfold Cell6 at hc ⊢
 rw[e6] at hc
 exact hc
theorem tms_one {w:World}{t:M.Tm}{op:Int}{g:Bool}{N A:Option Addr}{nn nc n c gb:Nat}{nm:List UInt8}{so:Int}{T:TypeId}(h:IsTm w t (kv op g N nn nc nm so A n c))
 (hb:Box w gb #[.int .i64 op,.bool g,.slice N nn nc,str nm,.int .i64 so,.slice A n c] T):Tms w [t] (.slice (some ⟨gb,0,none⟩) 1 1):=by
 refine Tms.mk_ ⟨_,_,_,rfl,rfl,Nat.le_refl _,by decide,fun _=>⟨_,rfl,hb.lt,fun k u hk=>?_⟩⟩
 rcases k with _|k
 ·simp at hk
  subst hk
  refine tmAt_of h ?_
  unfold Cell6
  exact⟨⟨hb.k 0,hb.k 1,hb.k 2⟩,hb.k 3,hb.k 4,hb.k 5⟩
 ·simp at hk
theorem tms_two {w:World}{t t':M.Tm}{op op':Int}{g g':Bool}{N A N' A':Option Addr}{nn nc n c nn' nc' n' c' gb:Nat}{nm nm':List UInt8}{so so':Int}{T:TypeId}(h:IsTm w t (kv op g N nn nc nm so A n c))(h':IsTm w t' (kv op' g' N' nn' nc' nm' so' A' n' c'))
 (hb:Box w gb #[.int .i64 op,.bool g,.slice N nn nc,str nm,.int .i64 so,.slice A n c,.int .i64 op',.bool g',.slice N' nn' nc',str nm',.int .i64 so',.slice A' n' c'] T):Tms w [t,t'] (.slice (some ⟨gb,0,none⟩) 2 2):=by
 refine Tms.mk_ ⟨_,_,_,rfl,rfl,Nat.le_refl _,by decide,fun _=>⟨_,rfl,hb.lt,fun k u hk=>?_⟩⟩
 rcases k with _|_|k
 ·simp at hk
  subst hk
  refine tmAt_of h ?_
  unfold Cell6
  exact⟨⟨hb.k 0,hb.k 1,hb.k 2⟩,hb.k 3,hb.k 4,hb.k 5⟩
 ·simp at hk
  subst hk
  refine tmAt_of h' ?_
  unfold Cell6
  exact⟨⟨hb.k 6,hb.k 7,hb.k 8⟩,hb.k 9,hb.k 10,hb.k 11⟩
 ·simp at hk
theorem put6_kept {w:World}{k:Nat}{x0 x1 x2 x3 x4 x5:Value}: Kept [k] w (put6 w k x0 x1 x2 x3 x4 x5):=((((((kept_setAt x0).trans (kept_setAt x1)).trans (kept_setAt x2)).trans (kept_setAt x3)).trans (kept_setAt x4)).trans (kept_setAt x5))
namespace M
end M
set_option linter.unusedSimpArgs false
set_option linter.unusedVariables false
open Go.RowKit
theorem M.kcnt_kids (t:M.Tm): M.kcnt t=1+M.kcnts t.kids:=by rw[M.Tm.eta t,M.kcnt];rfl
set_option maxHeartbeats 4000000 in
theorem counted_n:∀(N:Nat) {ks:List M.Tm} {v:Value} {m:Nat} {w:World},M.kcnts ks<N→Tms w ks v→m≤401→Calls Tryz.prog 133 #[.int .i64 (m:Int),v] w (GivesI w ((min (m+M.kcnts ks) 401:Nat):Int)):=by
 intro N
 induction N with
 | zero=>intro ks v m w h;omega
 | succ N ih=>
  intro ks v m w hN hk hm
  obtain⟨A,c,rfl⟩:=hk.shape
  obtain⟨hl1,hl2,hl4⟩:=hk.le
  obtain⟨n,hn⟩:∃n,ks.length=n:=⟨_,rfl⟩
  obtain⟨z,hz⟩:∃z,min (m+M.kcnts ks) 401=z:=⟨_,rfl⟩
  rw[hz]
  rw[hn] at hk hl2 ⊢
  have HK:=hid hk
  have IH:=@hid _ @ih
  have HZ:=hid (show z=min (m+M.kcnts (ks.take n)) 401 by rw[←hn,List.take_length,←hz])
  have HNN:=hid hN
  clear hk ih hn hl1 hz hN
  go_enter Tryz.func133,Tryz.ntmps133
  go_wp2_with fail
  go_loopw[0,9] (fun x i wr=>∃(k s:Nat),x=.int .i64 (s:Int)∧i=.int .i64 (k:Int)∧k≤n∧s≤401∧Hid (s=min (m+M.kcnts (ks.take k)) 401∧Ext w wr)) (fun _ i _=>n-(intOf i).toNat)
  case atStart=>exact⟨0,m,rfl,rfl,Nat.zero_le _,hm,by simp[M.kcnts];omega,Ext.refl _⟩
  case round=>
   obtain⟨k,s,rfl,rfl,hk,hs,hR⟩:=hrel
   have E:=hid hR.out.2
   have HS:=hid hR.out.1
   clear hR
   rcases Nat.lt_or_ge k n with hlt|hge
   ·have hlt':(k:Int)<(n:Int):=by omega
    obtain⟨ad,u,N',nn',nc',B,d,rfl,hu,⟨c0,c1,c2,c3,c4,c5⟩,hv⟩:=(HK.out.up E.out).get hlt
    have HU:=hid hu
    rcases Nat.lt_or_ge 400 s with h4|h4
    ·have hq:400<(s:Int):=by omega
     clear hu hv
     go_wp2
     go_ret
     obtain rfl:s=z:=by
      have h1:=HS.out
      have h2:=HZ.out
      have h3:=M.kcnts_take_le (ks.take n) k
      rw[List.take_take,Nat.min_eq_left (by omega)] at h3
      omega
     exact⟨rfl,E.out.alloc' _⟩
    ·have hq:decide (400<(s:Int))=false:=by simp;omega
     obtain⟨y,hy⟩:∃y,s+1=y:=⟨_,rfl⟩
     have hsi:(s:Int)+1=(y:Int):=by omega
     obtain⟨q,hqq⟩:∃q,min (y+M.kcnts u.kids) 401=q:=⟨_,rfl⟩
     have HQ:=hid (show q=min (s+M.kcnt u) 401 by rw[←hqq,←hy,M.kcnt_kids u];omega)
     have hkd:=hv.num.2
     have HC:=hid (show ∀w',Ext wr w'→Calls Tryz.prog 133 #[.int .i64 (y:Int),.slice B u.kids.length d] w' (GivesI w' (q:Int)) from fun w' e=>by
      rw[←hqq]
      refine IH.out ?_ (hkd.up e) (by omega)
      have h1:=M.kcnts_at HU.out
      have h3:=HNN.out
      have h4:=M.kcnt_kids u
      omega)
     have hq9:q≤401:=by omega
     clear hu hv hkd hy hqq
     go_wp2_with (go_at_call 133;refine(HC.out _ (Ext.alloc _ _)).mono ?_;rintro e w' ⟨rfl,hb⟩;replace E:=hid ((E.out.alloc' _).trans hb);clear hb)
     go_roundw
     case rel=>exact⟨k+1,q,rfl,by simp,by omega,hq9,by
      have h1:=HS.out
      have h2:=HQ.out
      rw[M.kcnts_take HU.out];omega,E.out⟩
     case measure=>simp[intOf];omega
   ·obtain rfl:k=n:=by omega
    go_wp2
    go_ret
    obtain rfl:s=z:=by rw[HS.out,HZ.out]
    exact⟨rfl,E.out⟩
theorem counted_any {ks:List M.Tm}{v:Value}{m:Nat}{w:World}(h:Tms w ks v)(hm:m≤401): Calls Tryz.prog 133 #[.int .i64 (m:Int),v] w (GivesI w ((min (m+M.kcnts ks) 401:Nat):Int)):=
 counted_n (M.kcnts ks+1) (Nat.lt_succ_self _) h hm
theorem count_t (t:M.Tm){v:Value}{w:World}(h:IsTm w t v): Calls Tryz.prog 92 #[v] w (GivesI w ((min (M.kcnt t) 401:Nat):Int)):=by
 obtain⟨N,nn,nc,A,n,c,rfl,-,-,-,-,-,-⟩:=h.shape
 obtain⟨op,hop⟩:∃x,t.op=x:=⟨_,rfl⟩
 obtain⟨g,hg⟩:∃x,t.g=x:=⟨_,rfl⟩
 obtain⟨nm,hnm⟩:∃x,t.name=x:=⟨_,rfl⟩
 obtain⟨so,hso⟩:∃x,t.sort=x:=⟨_,rfl⟩
 rw[hop,hg,hnm,hso] at h ⊢
 have hK:Tms (kboxed (kboxed w op g N nn nc nm so A n c) op g N nn nc nm so A n c) [t] (.slice (some ⟨w.heap.size+1,0,none⟩) 1 1):=by
  have:=tms_one (h.up ((Ext.alloc w (.cells #[.int .i64 op,.bool g,.slice N nn nc,str nm,.int .i64 so,.slice A n c] 27)).alloc' (.cells #[.int .i64 op,.bool g,.slice N nn nc,str nm,.int .i64 so,.slice A n c] 27))) (Box.new _ _ _)
  rwa [show (kboxed w op g N nn nc nm so A n c).heap.size=w.heap.size+1 by simp] at this
 obtain⟨z,hz⟩:∃z,min (M.kcnt t) 401=z:=⟨_,rfl⟩
 have H:=hid (show Calls Tryz.prog 133 #[.int .i64 0,.slice (some ⟨w.heap.size+1,0,none⟩) 1 1] (kboxed (kboxed w op g N nn nc nm so A n c) op g N nn nc nm so A n c) (GivesI (kboxed (kboxed w op g N nn nc nm so A n c) op g N nn nc nm so A n c) (z:Int)) by
  have:=counted_any (m:=0) hK (by omega)
  rw[show M.kcnts [t]=M.kcnt t by simp[M.kcnts],Nat.zero_add,hz] at this
  exact this)
 rw[hz]
 clear h hop hg hnm hso hK hz
 go_enter Tryz.func92,Tryz.ntmps92
 go_wp2_with fail
 refine H.out.mono ?_
 rintro e w' ⟨rfl,hb⟩
 have E:=hid hb
 clear hb
 go_wp2
 go_ret
 exact⟨rfl,((Ext.alloc w _).alloc' _).trans E.out⟩
theorem equalI_n {u v:Value}{l m:List Int}{w:World}(hu:Ints w l u)(hv:Ints w m v):
 Calls Tryz.prog 226 #[u,v] w (GivesB w (decide (l=m))):=by
 obtain⟨A,c,rfl⟩:=hu.shape
 obtain⟨A',c',rfl⟩:=hv.shape
 obtain⟨hl1,hl2,hl3⟩:=hu.le
 obtain⟨n,hn⟩:∃n,l.length=n:=⟨_,rfl⟩
 obtain⟨n',hn'⟩:∃n',m.length=n':=⟨_,rfl⟩
 rw[hn] at hu hl2 ⊢
 rw[hn'] at hv ⊢
 have HR:=hid hu
 have HR':=hid hv
 have HN:=hid hn
 have HN':=hid hn'
 have hb:n≤9223372036854775807:=by omega
 clear hu hv hn hn' hl1 hl2 hl3
 by_cases hnn:n=n'
 ·subst hnn
  go_enter Tryz.func226,Tryz.ntmps226
  go_wp2
  go_loopw[13] (fun i wr=>∃k p:Nat,k≤n∧i=.int .i64 k∧wr=w.drewN p∧l.take k=m.take k) (fun i _=>n-(intOf i).toNat)
  case atStart=>exact⟨0,0,Nat.zero_le _,rfl,rfl,rfl⟩
  case round=>
   obtain⟨k,p,hk,rfl,rfl,he⟩:=hrel
   have HE:=hid he
   clear he
   by_cases hlt:k<n
   ·obtain⟨ad,x,rfl,hX,hcell⟩:=HR.out.get hlt
    obtain⟨ad',x',rfl,hX',hcell'⟩:=HR'.out.get hlt
    have HX:=hid hX
    have HX':=hid hX'
    clear hX hX'
    by_cases hx:x=x'
    ·subst hx
     go_wp2
     go_quiet (fail)
     go_wp2
     go_roundw
     case rel=>exact⟨k+1,p+nq,by omega,by go_num,rfl,by rw[List.take_add_one,List.take_add_one,HE.out,HX.out,HX'.out]⟩
     case measure=>simp[intOf];all_goals omega
    ·have hx':=hid hx
     have hne:(x != x')=true:=by simpa using hx
     clear hx
     go_wp2
     go_quiet (fail)
     go_wp2
     go_ret
     refine⟨ret_bool ?_,((Ext.refl w).drewN' p).drewN' _⟩
     have:l≠m:=by
      rintro rfl
      have:=HX.out
      rw[HX'.out] at this
      injection this with this
      exact hx'.out this.symm
     exact(decide_eq_false this).symm
   ·obtain rfl:k=n:=by omega
    go_wp2
    go_ret
    refine⟨ret_bool ?_,(Ext.refl w).drewN' _⟩
    have h1:=HE.out
    rw[←HN.out,List.take_length] at h1
    rw[HN.out,←HN'.out,List.take_length] at h1
    exact(decide_eq_true h1).symm
 ·have hq:((n:Int)==(n':Int))=false:=by simp;omega
  have hne:l≠m:=by rintro rfl;exact hnn (HN.out.symm.trans HN'.out)
  rw[decide_eq_false hne]
  go_enter Tryz.func226,Tryz.ntmps226
  go_wp2
  go_ret
  exact⟨rfl,Ext.refl _⟩
theorem equalU_n {u v:Value}{l m:List Nat}{w:World}(hu:LNum w u l)(hv:LNum w v m):
 Calls Tryz.prog 207 #[u,v] w (GivesB w (decide (l=m))):=by
 obtain⟨A,n,c,rfl,hn,hc,hm,hs,hr⟩:=hu
 obtain⟨A',n',c',rfl,hn',hc',hm',hs',hr'⟩:=hv
 have hb:n≤9223372036854775807:=by unfold maxLen at hm;omega
 have HR:=hid hr
 have HR':=hid hr'
 have HN:=hid hn
 have HN':=hid hn'
 clear hr hn hs hm hr' hn' hs' hm' hc hc'
 by_cases hnn:n=n'
 ·subst hnn
  go_enter Tryz.func207,Tryz.ntmps207
  go_wp2
  go_loopw[13] (fun i wr=>∃k p:Nat,k≤n∧i=.int .i64 k∧wr=w.drewN p∧l.take k=m.take k) (fun i _=>n-(intOf i).toNat)
  case atStart=>exact⟨0,0,Nat.zero_le _,rfl,rfl,rfl⟩
  case round=>
   obtain⟨k,p,hk,rfl,rfl,he⟩:=hrel
   have HE:=hid he
   clear he
   by_cases hlt:k<n
   ·obtain⟨ad,x,rfl,_,HX,hcell⟩:=HR.out.get (k:=k) (by rw[←HN.out];exact hlt)
    obtain⟨ad',x',rfl,_,HX',hcell'⟩:=HR'.out.get (k:=k) (by rw[←HN'.out];exact hlt)
    by_cases hx:x=x'
    ·subst hx
     go_wp2
     go_quiet (fail)
     go_wp2
     go_roundw
     case rel=>exact⟨k+1,p+nq,by omega,by go_num,rfl,by rw[List.take_add_one,List.take_add_one,HE.out,HX.out,HX'.out]⟩
     case measure=>simp[intOf];all_goals omega
    ·have hx':=hid hx
     have hne:((x:Int) != (x':Int))=true:=by simpa using (by omega:¬(x:Int)=x')
     clear hx
     go_wp2
     go_quiet (fail)
     go_wp2
     go_ret
     refine⟨ret_bool ?_,((Ext.refl w).drewN' p).drewN' _⟩
     have:l≠m:=by
      rintro rfl
      have:=HX.out
      rw[HX'.out] at this
      injection this with this
      exact hx'.out this.symm
     exact(decide_eq_false this).symm
   ·obtain rfl:k=n:=by omega
    go_wp2
    go_ret
    refine⟨ret_bool ?_,(Ext.refl w).drewN' _⟩
    have h1:=HE.out
    rw[HN.out,List.take_length] at h1
    rw[←HN.out,HN'.out,List.take_length] at h1
    exact(decide_eq_true h1).symm
 ·have hq:((n:Int)==(n':Int))=false:=by simp;omega
  have hne:l≠m:=by rintro rfl;exact hnn (HN.out.trans HN'.out.symm)
  rw[decide_eq_false hne]
  go_enter Tryz.func207,Tryz.ntmps207
  go_wp2
  go_ret
  exact⟨rfl,Ext.refl _⟩
theorem dec_eqI (a b:Int): (a==b)=decide (a=b):=by
 by_cases h:a=b<;>simp[h]
set_option maxHeartbeats 4000000 in
theorem sameHead_n {op op':Int}{g g':Bool}{N N' A A':Option Addr}{nn nc n c nn' nc' n' c':Nat}{nm nm':List UInt8}{so so':Int}{ls ls':List Nat}{w:World}(hn:LNum w (.slice N nn nc) ls)(hn':LNum w (.slice N' nn' nc') ls'):
 Calls Tryz.prog 169 #[kv op g N nn nc nm so A n c,kv op' g' N' nn' nc' nm' so' A' n' c'] w (GivesB w (decide (op=op')&&(decide (g=g'∧ls=ls')&&(decide (nm=nm')&&decide (so=so'))))):=by
 by_cases h1:op=op'
 case neg=>
  have hb:(op==op')=false:=by simpa using h1
  rw[decide_eq_false h1,Bool.false_and]
  clear h1 hn hn'
  go_enter Tryz.func169,Tryz.ntmps169
  go_wp2
  go_ret
  exact⟨rfl,(Ext.alloc w _).alloc' _⟩
 case pos=>
 subst h1
 rw[decide_eq_true rfl,Bool.true_and]
 by_cases h2:g=g'
 case neg=>
  have hb:(g==g')=false:=by cases g<;>cases g'<;>simp at h2 ⊢
  rw[show decide (g=g'∧ls=ls')=false by simp[h2],Bool.false_and]
  clear h2 hn hn'
  go_enter Tryz.func169,Tryz.ntmps169
  cases g<;>cases g'<;>simp at hb<;>clear hb<;>(
   go_wp2
   go_ret
   exact⟨rfl,(Ext.alloc w _).alloc' _⟩)
 case pos=>
 subst h2
 rw[show decide (g=g∧ls=ls')=decide (ls=ls') by simp]
 have HC:=hid (show ∀w',Ext w w'→Calls Tryz.prog 207 #[.slice N nn nc,.slice N' nn' nc'] w' (GivesB w' (decide (ls=ls'))) from fun w' e=>equalU_n (hn.up e) (hn'.up e))
 obtain⟨q,hq⟩:∃q,decide (ls=ls')=q:=⟨_,rfl⟩
 rw[hq] at HC ⊢
 clear hn hn' hq
 have HB1:=hid (show Box ((w.alloc (.cells #[.int .i64 op,.bool g,.slice N nn nc,str nm,.int .i64 so,.slice A n c] 27)).alloc (.cells #[.int .i64 op,.bool g,.slice N' nn' nc',str nm',.int .i64 so',.slice A' n' c'] 27)) w.heap.size #[.int .i64 op,.bool g,.slice N nn nc,str nm,.int .i64 so,.slice A n c] 27 from(Box.new w _ _).alloc _)
 have HB2:=hid (show Box ((w.alloc (.cells #[.int .i64 op,.bool g,.slice N nn nc,str nm,.int .i64 so,.slice A n c] 27)).alloc (.cells #[.int .i64 op,.bool g,.slice N' nn' nc',str nm',.int .i64 so',.slice A' n' c'] 27)) (w.heap.size+1) #[.int .i64 op,.bool g,.slice N' nn' nc',str nm',.int .i64 so',.slice A' n' c'] 27 from Box.at_ (w:=w.alloc (.cells #[.int .i64 op,.bool g,.slice N nn nc,str nm,.int .i64 so,.slice A n c] 27)) _ _ (by simp))
 cases q
 ·rw[Bool.false_and]
  cases g<;>(
   go_enter Tryz.func169,Tryz.ntmps169
   go_wp2_with fail
   refine(HC.out _ (alloc_two w _ _)).mono ?_
   rintro e w' ⟨rfl,hb⟩
   go_wp2
   go_ret
   exact⟨rfl,(alloc_two w _ _).trans hb⟩)
 ·rw[Bool.true_and]
  by_cases h3:nm=nm'
  case neg=>
   rw[decide_eq_false h3,Bool.false_and]
   cases g<;>(
    go_enter Tryz.func169,Tryz.ntmps169
    go_wp2_with fail
    refine(HC.out _ (alloc_two w _ _)).mono ?_
    rintro e w' ⟨rfl,hb⟩
    obtain⟨⟨a0,a1,a2,a3,a4,a5⟩,-,-⟩:=boxF6 (HB1.out.up hb)
    obtain⟨⟨b0,b1,b2,b3,b4,b5⟩,-,-⟩:=boxF6 (HB2.out.up hb)
    have E:=hid hb
    clear hb
    go_wp2
    go_ret
    exact⟨rfl,(alloc_two w _ _).trans E.out⟩)
  case pos=>
  subst h3
  rw[decide_eq_true rfl,Bool.true_and]
  obtain⟨q,hq⟩:∃q,decide (so=so')=q:=⟨_,rfl⟩
  have hq2:(so==so')=q:=by rw[dec_eqI,hq]
  rw[hq]
  clear hq
  cases g<;>(
   go_enter Tryz.func169,Tryz.ntmps169
   go_wp2_with fail
   refine(HC.out _ (alloc_two w _ _)).mono ?_
   rintro e w' ⟨rfl,hb⟩
   obtain⟨⟨a0,a1,a2,a3,a4,a5⟩,-,-⟩:=boxF6 (HB1.out.up hb)
   obtain⟨⟨b0,b1,b2,b3,b4,b5⟩,-,-⟩:=boxF6 (HB2.out.up hb)
   have E:=hid hb
   clear hb
   go_wp2
   go_ret
   exact⟨rfl,(alloc_two w _ _).trans E.out⟩)
end Go.Proofs.YtoenjbkmiphhoaaGreatDoor.Q
