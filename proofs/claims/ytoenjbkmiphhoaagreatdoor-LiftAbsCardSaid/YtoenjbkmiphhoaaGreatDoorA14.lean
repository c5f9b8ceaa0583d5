/-
  Layer 10, mathematics: terms.
-/
import Derived.Test.YtoenjbkmiphhoaaGreatDoorA13
import Derived.Test.YtoenjbkmiphhoaaGreatDoorA05
namespace Go.Proofs.YtoenjbkmiphhoaaGreatDoor.Q
set_option linter.unusedSimpArgs false
set_option linter.unusedVariables false
namespace M
inductive Tm where
 | mk (op:Int) (g:Bool) (ls:List Nat) (name:List UInt8) (sort:Int) (kids:List Tm)
def Tm.op:Tm→Int | .mk op _ _ _ _ _=>op
def Tm.g:Tm→Bool | .mk _ g _ _ _ _=>g
def Tm.ls:Tm→List Nat | .mk _ _ ls _ _ _=>ls
def Tm.name:Tm→List UInt8 | .mk _ _ _ nm _ _=>nm
def Tm.sort:Tm→Int | .mk _ _ _ _ s _=>s
def Tm.kids:Tm→List Tm | .mk _ _ _ _ _ ks=>ks
theorem Tm.eta (t:Tm): t=.mk t.op t.g t.ls t.name t.sort t.kids:=by cases t;rfl
def K0:Tm:=.mk 0 false [] [] 0 []
mutual
theorem Tm.indA {P:Tm→Prop}(h:∀op g ls nm s (ks:List Tm),(∀(k:Nat) (t:Tm),ks[k]?=some t→P t)→P (.mk op g ls nm s ks)): ∀t,P t
 | .mk op g ls nm s ks=>h op g ls nm s ks (Tm.indL h ks)
theorem Tm.indL {P:Tm→Prop}(h:∀op g ls nm s (ks:List Tm),(∀(k:Nat) (t:Tm),ks[k]?=some t→P t)→P (.mk op g ls nm s ks)): ∀(ks:List Tm) (k:Nat) (t:Tm),ks[k]?=some t→P t
 | [],_,_,e=>by simp at e
 | x::r,0,t,e=>by simp at e;subst e;exact Tm.indA h x
 | x::r,k+1,t,e=>Tm.indL h r k t (by simpa using e)
end
mutual
def kcnt:Tm→Nat
 | .mk _ _ _ _ _ ks=>1+kcnts ks
def kcnts:List Tm→Nat
 | []=>0
 | t::r=>kcnt t+kcnts r
end
mutual
def kfew:Tm→Bool
 | .mk _ _ ls nm _ ks=>decide (nm.length≤30)&&(decide (ls.length≤40)&&kfews ks)
def kfews:List Tm→Bool
 | []=>true
 | t::r=>kfew t&&kfews r
end
def Tm.zv (t:Tm): Int:=M.zv t.g t.ls
def knum (t:Tm): Option Int:=if t.op=1 then some t.zv else if t.op=14 then (match t.kids with|[k]=>if k.op=1 then some (-k.zv) else none|_=>none) else none
def kargs (op:Int)(n:Nat): Bool:=
 if op=5∨op=18 then decide (n=1) else if op=15∨op=16∨op=17∨op=19∨op=20∨op=21∨op=22∨op=9∨op=10∨op=8 then decide (n=2) else if op=12 then decide (n=3) else decide (1≤n)
def kall (l:List Tm)(s:Int): Bool:=l.all fun t=>decide (t.sort=s)
def kat (l:List Tm)(k:Nat): Tm:=l.getD k K0
def ksorted (op:Int)(l:List Tm): Bool:=
 if op=5∨op=6∨op=7∨op=8∨op=9 then kall l 1 else if op=12 then decide ((kat l 0).sort=1)&&decide ((kat l 1).sort=(kat l 2).sort) else if op=10∨op=11 then kall l (kat l 0).sort else kall l 2
def klin (op:Int)(l:List Tm): Int:=
 if op=15 then (if (knum (kat l 0)).isNone&&(knum (kat l 1)).isNone then 19 else 0) else if op=16∨op=17 then (match knum (kat l 1) with|none=>19|some z=>if z=0 then 12 else 0) else 0
def kres (op:Int)(l:List Tm): Int:=if op=13∨op=14∨op=15∨op=16∨op=17∨op=18 then 2 else if op=12 then (kat l 1).sort else 1
def kcheck (op:Int)(l:List Tm): Int:=if ksorted op l=false then 17 else if klin op l≠0 then klin op l else if 400<1+kcnts l then 11 else 0
def khead (op:Int)(g:Bool)(ls:List Nat)(nm:List UInt8)(s:Int)(ks:List Tm): Bool:=
 if op=1 then M.isZ g ls&&(nm.isEmpty&&(decide (s=2)&&ks.isEmpty))
 else if op=2∨op=3 then (M.isZ g ls&&decide (M.zv g ls=0))&&(nm.isEmpty&&(decide (s=1)&&ks.isEmpty))
 else if op=4 then (M.isZ g ls&&decide (M.zv g ls=0))&&(isSym nm&&(decide (ks.length≤3)&&decide (s=1∨s=2)))
 else (M.isZ g ls&&decide (M.zv g ls=0))&&(nm.isEmpty&&(decide (5≤op∧op≤22)&&(kargs op ks.length&&(decide (kcheck op ks=0)&&decide (s=kres op ks)))))
mutual
def kis:Tm→Bool
 | .mk op g ls nm s ks=>kiss ks&&khead op g ls nm s ks
def kiss:List Tm→Bool
 | []=>true
 | t::r=>kis t&&kiss r
end
def kIs (t:Tm): Bool:=decide (kcnt t≤400)&&kis t
def kIss (l:List Tm): Bool:=l.all kIs
def kmake (op:Int)(l:List Tm): Tm×Int:=
 if op<5∨22<op then (K0,10) else if kargs op l.length=false then (K0,18) else if kIss l=false then (K0,10) else if kcheck op l≠0 then (K0,kcheck op l) else (.mk op false [] [] (kres op l) l,0)
structure Sg where
 name:List UInt8
 args:List Int
 ret:Int
 deriving DecidableEq
def ksig (s:Sg): Bool:=(s.args.all fun a=>decide (a=1∨a=2))&&(isSym s.name&&(decide (s.args.length≤3)&&decide (s.ret=1∨s.ret=2)))
theorem kcnt_pos (t:Tm): 1≤kcnt t:=by cases t;unfold kcnt;omega
theorem kcnts_app (a b:List Tm): kcnts (a++b)=kcnts a+kcnts b:=by
 induction a with
 | nil=>simp[kcnts]
 | cons x r ih=>simp[kcnts,ih];omega
theorem kcnts_take {ks:List Tm}{k:Nat}{t:Tm}(h:ks[k]?=some t): kcnts (ks.take (k+1))=kcnts (ks.take k)+kcnt t:=by
 rw[List.take_add_one,h,kcnts_app];simp[kcnts]
theorem kcnts_take_le:∀(ks:List Tm) (k:Nat),kcnts (ks.take k)≤kcnts ks
 | [],_=>by simp[kcnts]
 | x::r,0=>by simp[kcnts]
 | x::r,k+1=>by simp[kcnts];have:=kcnts_take_le r k;omega
theorem kcnts_len:∀(ks:List Tm),ks.length≤kcnts ks
 | []=>by simp
 | x::r=>by have h1:=kcnts_len r;have h2:=kcnt_pos x;simp[kcnts];omega
theorem kcnts_at {ks:List Tm}{k:Nat}{t:Tm}(h:ks[k]?=some t): kcnt t≤kcnts ks:=by
 have h1:=kcnts_take h;have h2:=kcnts_take_le ks (k+1);omega
theorem kfews_at:∀{ks:List Tm} {k:Nat} {t:Tm},kfews ks=true→ks[k]?=some t→kfew t=true
 | [],_,_,_,h=>by simp at h
 | x::r,0,t,h,e=>by simp at e;subst e;rw[kfews,Bool.and_eq_true] at h;exact h.1
 | x::r,k+1,t,h,e=>by rw[kfews,Bool.and_eq_true] at h;exact kfews_at h.2 (k:=k) (by simpa using e)
theorem kfew_parts {t:Tm}(h:kfew t=true): t.name.length≤30∧t.ls.length≤40∧kfews t.kids=true:=by
 obtain⟨op,g,ls,nm,s,ks⟩:=t;rw[kfew,Bool.and_eq_true,Bool.and_eq_true,decide_eq_true_iff,decide_eq_true_iff] at h;exact h
theorem kiss_app (a b:List Tm): kiss (a++b)=(kiss a&&kiss b):=by
 induction a with
 | nil=>simp[kiss]
 | cons x r ih=>simp[kiss,ih,Bool.and_assoc]
theorem kiss_take {ks:List Tm}{k:Nat}{t:Tm}(h:ks[k]?=some t): kiss (ks.take (k+1))=(kiss (ks.take k)&&kis t):=by
 rw[List.take_add_one,h,kiss_app];simp[kiss]
theorem kiss_at:∀{ks:List Tm} {k:Nat} {t:Tm},kiss ks=true→ks[k]?=some t→kis t=true
 | [],_,_,_,h=>by simp at h
 | x::r,0,t,h,e=>by simp at e;subst e;rw[kiss,Bool.and_eq_true] at h;exact h.1
 | x::r,k+1,t,h,e=>by rw[kiss,Bool.and_eq_true] at h;exact kiss_at h.2 (k:=k) (by simpa using e)
theorem not_kiss {ks:List Tm}{k:Nat}{t:Tm}(e:ks[k]?=some t)(h:kis t=false): kiss ks=false:=by
 rcases hq:kiss ks with _|_
 ·rfl
 ·rw[kiss_at hq e] at h;cases h
theorem kall_take {l:List Tm}{k:Nat}{t:Tm}(h:l[k]?=some t)(s:Int): kall (l.take (k+1)) s=(kall (l.take k) s&&decide (t.sort=s)):=by
 unfold kall;rw[List.take_add_one,h,List.all_append];simp
theorem not_kall {l:List Tm}{k:Nat}{t:Tm}(h:l[k]?=some t){s:Int}(hs:t.sort≠s): kall l s=false:=by
 unfold kall;rw[List.all_eq_false];exact⟨t,List.mem_of_getElem? h,by simpa using hs⟩
theorem kIss_take {l:List Tm}{k:Nat}{t:Tm}(h:l[k]?=some t): kIss (l.take (k+1))=(kIss (l.take k)&&kIs t):=by
 unfold kIss;rw[List.take_add_one,h,List.all_append];simp
theorem not_kIss {l:List Tm}{k:Nat}{t:Tm}(h:l[k]?=some t)(hs:kIs t=false): kIss l=false:=by
 unfold kIss;rw[List.all_eq_false];exact⟨t,List.mem_of_getElem? h,by simp[hs]⟩
theorem kat_of {l:List Tm}{k:Nat}{t:Tm}(h:l[k]?=some t): kat l k=t:=by
 unfold kat;rw[List.getD_eq_getElem?_getD,h];rfl
end M
open Go.RowKit
abbrev LNum (w:World)(v:Value)(ls:List Nat): Prop:=Num w w.heap.size v ls
theorem LNum.up {w w':World}{v:Value}{ls:List Nat}(h:LNum w v ls)(e:Ext w w'): LNum w' v ls:=Num.keep h e e.size
theorem LNum.len {w:World}{A:Option Addr}{n c:Nat}{ls:List Nat}(h:LNum w (.slice A n c) ls): n=ls.length∧n≤c∧c≤maxLen:=by
 obtain⟨A',n',c',e,h2,h3,h4,_⟩:=h;injection e with e1 e2 e3;subst e1 e2 e3;exact⟨h2,h3,h4⟩
abbrev kv (op:Int)(g:Bool)(N:Option Addr)(nn nc:Nat)(nm:List UInt8)(s:Int)(A:Option Addr)(n c:Nat): Value:=.agg #[.int .i64 op,.bool g,.slice N nn nc,str nm,.int .i64 s,.slice A n c]
def Cell6 (w:World)(a:Addr)(op:Int)(g:Bool)(nv:Value)(nm:List UInt8)(s:Int)(v:Value): Prop:=
 (w.cell? a=some (.int .i64 op)∧w.cell? (a.add 1)=some (.bool g)∧w.cell? (a.add 2)=some nv)∧w.cell? (a.add 3)=some (str nm)∧w.cell? (a.add 4)=some (.int .i64 s)∧w.cell? (a.add 5)=some v
theorem Cell6.up {w w':World}{a:Addr}{op:Int}{g:Bool}{nv:Value}{nm:List UInt8}{s:Int}{v:Value}(h:Cell6 w a op g nv nm s v)(e:Ext w w'): Cell6 w' a op g nv nm s v:=
 ⟨⟨e.cell h.1.1,e.cell h.1.2.1,e.cell h.1.2.2⟩,e.cell h.2.1,e.cell h.2.2.1,e.cell h.2.2.2⟩
mutual
def TmsAt (w:World): List M.Tm→Addr→Nat→Prop
 | [],_,_=>True
 | t::r,ad,k=>TmAt w t (ad.add (k*6))∧TmsAt w r ad (k+1)
def TmAt (w:World): M.Tm→Addr→Prop
 | .mk op g ls nm s ks,a=>∃N nn nc A n c,Cell6 w a op g (.slice N nn nc) nm s (.slice A n c)∧LNum w (.slice N nn nc) ls∧n=ks.length∧n≤c∧c≤maxLen∧(ks≠[]→∃ad,A=some ad∧ad.block<w.heap.size∧TmsAt w ks ad 0)
end
def Tms (w:World)(ks:List M.Tm)(v:Value): Prop:=∃A n c,v=.slice A n c∧n=ks.length∧n≤c∧c≤maxLen∧(ks≠[]→∃ad,A=some ad∧ad.block<w.heap.size∧TmsAt w ks ad 0)
theorem tmAt_mk {w:World}{op:Int}{g:Bool}{ls:List Nat}{nm:List UInt8}{s:Int}{ks:List M.Tm}{a:Addr}: TmAt w (.mk op g ls nm s ks) a↔∃N nn nc v,Cell6 w a op g (.slice N nn nc) nm s v∧LNum w (.slice N nn nc) ls∧Tms w ks v:=by
 constructor
 ·intro h;rw[TmAt] at h;obtain⟨N,nn,nc,A,n,c,h1,h2,h3⟩:=h;exact⟨N,nn,nc,_,h1,h2,A,n,c,rfl,h3⟩
 ·rintro⟨N,nn,nc,v,h1,h2,A,n,c,rfl,h3⟩;rw[TmAt];exact⟨N,nn,nc,A,n,c,h1,h2,h3⟩
theorem tmsAt_get {w:World}{ad:Addr}: ∀{ks:List M.Tm} {j k:Nat} {t:M.Tm},TmsAt w ks ad j→ks[k]?=some t→TmAt w t (ad.add ((j+k)*6))
 | [],_,_,_,_,h=>by simp at h
 | x::r,j,0,t,h,e=>by
  simp at e;subst e;rw[TmsAt] at h;exact h.1
 | x::r,j,k+1,t,h,e=>by
  rw[TmsAt] at h;have:=tmsAt_get h.2 (k:=k) (t:=t) (by simpa using e);rw[show j+(k+1)=j+1+k by omega];exact this
theorem tmsAt_of {w:World}{ad:Addr}: ∀{ks:List M.Tm} {j:Nat},(∀k t,ks[k]?=some t→TmAt w t (ad.add ((j+k)*6)))→TmsAt w ks ad j
 | [],_,_=>by rw[TmsAt];trivial
 | x::r,j,h=>by
  rw[TmsAt];refine⟨h 0 x rfl,tmsAt_of fun k t e=>?_⟩;have:=h (k+1) t (by simpa using e);rw[show j+1+k=j+(k+1) by omega];exact this
theorem Tms.at_ {w:World}{ks:List M.Tm}{v:Value}(h:Tms w ks v): ∃A n c,v=.slice A n c∧n=ks.length∧n≤c∧c≤maxLen∧(ks≠[]→∃ad,A=some ad∧ad.block<w.heap.size∧∀k t,ks[k]?=some t→TmAt w t (ad.add (k*6))):=by
 obtain⟨A,n,c,h1,h2,h3,h4,h5⟩:=h;refine⟨A,n,c,h1,h2,h3,h4,fun hne=>?_⟩;obtain⟨ad,e1,e2,e3⟩:=h5 hne;exact⟨ad,e1,e2,fun k t hk=>by have:=tmsAt_get e3 hk;rwa [Nat.zero_add] at this⟩
theorem Tms.mk_ {w:World}{ks:List M.Tm}{v:Value}(h:∃A n c,v=.slice A n c∧n=ks.length∧n≤c∧c≤maxLen∧(ks≠[]→∃ad,A=some ad∧ad.block<w.heap.size∧∀k t,ks[k]?=some t→TmAt w t (ad.add (k*6)))): Tms w ks v:=by
 obtain⟨A,n,c,h1,h2,h3,h4,h5⟩:=h;refine⟨A,n,c,h1,h2,h3,h4,fun hne=>?_⟩;obtain⟨ad,e1,e2,e3⟩:=h5 hne;exact⟨ad,e1,e2,tmsAt_of fun k t hk=>by rw[Nat.zero_add];exact e3 k t hk⟩
theorem TmAt.up {w w':World}(e:Ext w w')(t:M.Tm): ∀{a:Addr},TmAt w t a→TmAt w' t a:=by
 refine M.Tm.indA (P:=fun t=>∀{a:Addr},TmAt w t a→TmAt w' t a) (fun op g ls nm s ks ih a h=>?_) t;obtain⟨N,nn,nc,v,h6,hn,hk⟩:=tmAt_mk.1 h;obtain⟨A,n,c,h1,h2,h3,h4,h5⟩:=hk.at_;refine tmAt_mk.2 ⟨N,nn,nc,v,h6.up e,hn.up e,Tms.mk_ ⟨A,n,c,h1,h2,h3,h4,fun hne=>?_⟩⟩;obtain⟨ad,e1,e2,e3⟩:=h5 hne;exact⟨ad,e1,Nat.lt_of_lt_of_le e2 e.size,fun k t hk=>ih k t hk (e3 k t hk)⟩
theorem Tms.up {w w':World}{ks:List M.Tm}{v:Value}(h:Tms w ks v)(e:Ext w w'): Tms w' ks v:=by
 obtain⟨A,n,c,h1,h2,h3,h4,h5⟩:=h.at_;refine Tms.mk_ ⟨A,n,c,h1,h2,h3,h4,fun hne=>?_⟩;obtain⟨ad,e1,e2,e3⟩:=h5 hne;exact⟨ad,e1,Nat.lt_of_lt_of_le e2 e.size,fun k t hk=>TmAt.up e t (e3 k t hk)⟩
def IsTm (w:World)(t:M.Tm)(v:Value): Prop:=∃N nn nc A c,v=kv t.op t.g N nn nc t.name t.sort A t.kids.length c∧LNum w (.slice N nn nc) t.ls∧Tms w t.kids (.slice A t.kids.length c)
theorem IsTm.up {w w':World}{t:M.Tm}{v:Value}(h:IsTm w t v)(e:Ext w w'): IsTm w' t v:=by
 obtain⟨N,nn,nc,A,c,h1,h2,h3⟩:=h;exact⟨N,nn,nc,A,c,h1,h2.up e,h3.up e⟩
theorem Tms.nil (w:World): Tms w [] (.slice none 0 0):=⟨none,0,0,rfl,rfl,Nat.le_refl _,Nat.zero_le _,fun h=>absurd rfl h⟩
theorem LNum.nil (w:World): LNum w (.slice none 0 0) []:=Num.nil w _
theorem IsTm.zero (w:World): IsTm w M.K0 (kv 0 false none 0 0 [] 0 none 0 0):=⟨none,0,0,none,0,rfl,LNum.nil w,Tms.nil w⟩
theorem Tms.shape {w:World}{ks:List M.Tm}{v:Value}(h:Tms w ks v): ∃A c,v=.slice A ks.length c:=by
 obtain⟨A,n,c,h1,h2,_⟩:=h;exact⟨A,c,by rw[h1,h2]⟩
theorem Tms.le {w:World}{A:Option Addr}{n c:Nat}{ks:List M.Tm}(h:Tms w ks (.slice A n c)): n=ks.length∧n≤c∧c≤9223372036854775807:=by
 obtain⟨A',n',c',e,h2,h3,h4,_⟩:=h;injection e with e1 e2 e3;subst e1 e2 e3;exact⟨h2,h3,by unfold maxLen at h4;omega⟩
theorem Tms.get {w:World}{A:Option Addr}{n c:Nat}{ks:List M.Tm}(h:Tms w ks (.slice A n c)){k:Nat}(hk:k<n):
 ∃ad t N nn nc B d,A=some ad∧ks[k]?=some t∧(w.cell? (ad.add (k*6))=some (.int .i64 t.op)∧w.cell? ⟨(ad.add (k*6)).block,(ad.add (k*6)).off+1,none⟩=some (.bool t.g)∧w.cell? ⟨(ad.add (k*6)).block,(ad.add (k*6)).off+2,none⟩=some (.slice N nn nc)
  ∧ w.cell? ⟨(ad.add (k*6)).block,(ad.add (k*6)).off+3,none⟩=some (str t.name)∧w.cell? ⟨(ad.add (k*6)).block,(ad.add (k*6)).off+4,none⟩=some (.int .i64 t.sort)∧w.cell? ⟨(ad.add (k*6)).block,(ad.add (k*6)).off+5,none⟩=some (.slice B t.kids.length d))
  ∧ IsTm w t (kv t.op t.g N nn nc t.name t.sort B t.kids.length d):=by
 obtain⟨A',n',c',e,h2,h3,h4,h5⟩:=h.at_;injection e with e1 e2 e3;subst e1 e2 e3;obtain⟨ad,ha,hb,hc⟩:=h5 (by intro e;subst e;simp at h2;omega);obtain⟨⟨op,g,ls,nm,s,kk⟩,hk'⟩:∃t,ks[k]?=some t:=⟨_,List.getElem?_eq_getElem (by omega)⟩;obtain⟨N,nn,nc,v,⟨⟨c0,c1,c2⟩,c3,c4,c5⟩,hn,hkd⟩:=tmAt_mk.1 (hc k _ hk');obtain⟨B,d,rfl⟩:=hkd.shape;exact⟨ad,.mk op g ls nm s kk,N,nn,nc,B,d,ha,hk',⟨c0,c1,c2,c3,c4,c5⟩,N,nn,nc,B,d,rfl,hn,hkd⟩
abbrev kboxed (w:World)(op:Int)(g:Bool)(N:Option Addr)(nn nc:Nat)(nm:List UInt8)(s:Int)(A:Option Addr)(n c:Nat): World:=w.alloc (.cells #[.int .i64 op,.bool g,.slice N nn nc,str nm,.int .i64 s,.slice A n c] 27)
theorem box6 {w wN:World}{x0 x1 x2 x3 x4 x5:Value}{T:TypeId}(h:Ext (w.alloc (.cells #[x0,x1,x2,x3,x4,x5] T)) wN):
 (wN.cell? ⟨w.heap.size,0,none⟩=some x0∧wN.cell? ⟨w.heap.size,1,none⟩=some x1∧wN.cell? ⟨w.heap.size,2,none⟩=some x2∧wN.cell? ⟨w.heap.size,3,none⟩=some x3∧wN.cell? ⟨w.heap.size,4,none⟩=some x4∧wN.cell? ⟨w.heap.size,5,none⟩=some x5)∧w.heap.size<wN.heap.size:=by
 have h1:(w.alloc (.cells #[x0,x1,x2,x3,x4,x5] T)).heap[w.heap.size]?=some (.cells #[x0,x1,x2,x3,x4,x5] T (0,0)):=heap_alloc_new w _;have h2:wN.heap[w.heap.size]?=some (.cells #[x0,x1,x2,x3,x4,x5] T (0,0)):=(h.block _ (by simp)).trans h1;refine⟨⟨?_,?_,?_,?_,?_,?_⟩,(Array.getElem?_eq_some_iff.1 h2).1⟩
 ·rw[cell_of_row wN _ 0 _ T (0,0) h2];rfl
 ·rw[cell_of_row wN _ 1 _ T (0,0) h2];rfl
 ·rw[cell_of_row wN _ 2 _ T (0,0) h2];rfl
 ·rw[cell_of_row wN _ 3 _ T (0,0) h2];rfl
 ·rw[cell_of_row wN _ 4 _ T (0,0) h2];rfl
 ·rw[cell_of_row wN _ 5 _ T (0,0) h2];rfl
set_option maxHeartbeats 4000000 in
theorem kcount_n (t:M.Tm): ∀{v:Value} {m:Nat} {w:World},IsTm w t v→1≤m→m≤401→Calls Tryz.prog 57 #[v,.int .i64 (m:Int)] w (GivesI w ((min (M.kcnt t) m:Nat):Int)):=by
 refine M.Tm.indA (P:=fun t=>∀{v:Value} {m:Nat} {w:World},IsTm w t v→1≤m→m≤401→Calls Tryz.prog 57 #[v,.int .i64 (m:Int)] w (GivesI w ((min (M.kcnt t) m:Nat):Int))) (fun op g ls nm so ks ih v m w h hm1 hm=>?_) t;obtain⟨N,nn,nc,A,c,rfl,hn,hk⟩:=h;replace hk:Tms w ks (.slice A ks.length c):=hk;show Calls Tryz.prog 57 #[kv op g N nn nc nm so A ks.length c,.int .i64 (m:Int)] w _;obtain⟨hl1,hl2,hl3⟩:=hk.le;obtain⟨n,hn'⟩:∃n,ks.length=n:=⟨_,rfl⟩;obtain⟨z,hz⟩:∃z,min (M.kcnt (.mk op g ls nm so ks)) m=z:=⟨_,rfl⟩;rw[hz];rw[hn'] at hk hl2 ⊢;have HK:=hid hk;have IH:=@hid _ @ih;have HN:=hid hn';have HZ:=hid (show z=min (1+M.kcnts (ks.take n)) m by rw[←hn',List.take_length,←hz,M.kcnt]);clear hk ih hn' hl1 hz hn;go_enter Tryz.func57,Tryz.ntmps57
 go_wp2_with fail
 go_loopw[5,6] (fun x i wr=>∃(k s:Nat),x=.int .i64 (s:Int)∧i=.int .i64 (k:Int)∧k≤n∧s≤m∧Hid (s=min (1+M.kcnts (ks.take k)) m∧Ext (kboxed w op g N nn nc nm so A n c) wr)) (fun _ i _=>n-(intOf i).toNat)
 case atStart=>exact⟨0,1,rfl,rfl,Nat.zero_le _,hm1,by simp[M.kcnts];omega,Ext.refl _⟩
 case round=>
  obtain⟨k,s,rfl,rfl,hk,hs,hR⟩:=hrel;have E:=hid hR.out.2;obtain⟨⟨b0,b1,b2,b3,b4,b5⟩,hz⟩:=box6 E.out;have HS:=hid hR.out.1;clear hR;rcases Nat.lt_or_ge k n with hlt|hge
  ·have hlt':(k:Int)<(n:Int):=by omega
   rcases Nat.lt_or_ge s m with hsl|hsg
   ·have hsl':(s:Int)<(m:Int):=by omega
    obtain⟨ad,u,N',nn',nc',B,d,rfl,hu,⟨c0,c1,c2,c3,c4,c5⟩,hv⟩:=(HK.out.up ((Ext.alloc w _).trans E.out)).get hlt;have HU:=hid hu;have HC:=hid (IH.out k u HU.out hv (show 1≤m-s by omega) (by omega));obtain⟨q,hq⟩:∃q,min (M.kcnt u) (m-s)=q:=⟨_,rfl⟩;have HQ:=hid hq;have hq9:q≤m-s:=by omega
    have HV:=hid hv;rw[hq] at HC;obtain⟨y,hy⟩:∃y,m-s=y:=⟨_,rfl⟩;have hms:((m:Int)-(s:Int))=(y:Int):=by omega
    rw[hy] at HC;have HY:=hid hy;clear hu hv hq hy;go_wp2_with (go_at_call 57;refine HC.out.mono ?_;rintro e w' ⟨rfl,hb⟩;replace E:=hid (E.out.trans hb);clear hb)
    go_roundw
    case rel=>exact⟨k+1,s+q,by simp,by simp,by omega,by omega,by
     have h1:=HS.out;have h2:=HQ.out;rw[M.kcnts_take HU.out];omega,E.out⟩
    case measure=>simp[intOf];omega
   ·obtain rfl:s=m:=by omega
    go_wp2;go_ret;obtain rfl:s=z:=by
     have h1:=HS.out;have h2:=HZ.out;have h3:=M.kcnts_take_le (ks.take n) k;rw[List.take_take] at h3;rw[Nat.min_eq_left (by omega)] at h3;omega
    exact⟨rfl,(Ext.alloc w _).trans E.out⟩
  ·obtain rfl:k=n:=by omega
   have hmn:min (s:Int) (m:Int)=(s:Int):=by omega
   go_wp2;go_ret;obtain rfl:s=z:=by rw[HS.out,HZ.out]
   exact⟨rfl,(Ext.alloc w _).trans E.out⟩
theorem IsTm.shape {w:World}{t:M.Tm}{v:Value}(h:IsTm w t v): ∃N nn nc A n c,v=kv t.op t.g N nn nc t.name t.sort A n c∧n=t.kids.length∧n≤c∧c≤9223372036854775807∧nn=t.ls.length∧nn≤nc∧nc≤9223372036854775807:=by
 obtain⟨N,nn,nc,A,c,h1,h2,h3⟩:=h;obtain⟨a1,a2,a3⟩:=h3.le;obtain⟨b1,b2,b3⟩:=h2.len;exact⟨N,nn,nc,A,_,c,h1,rfl,a2,a3,b1,b2,by unfold maxLen at b3;omega⟩
theorem rkCount_n (t:M.Tm){v:Value}{w:World}(h:IsTm w t v): Calls Tryz.prog 32 #[v] w (GivesI w ((min (M.kcnt t) 401:Nat):Int)):=by
 obtain⟨N,nn,nc,A,n,c,rfl,-,-,-,-,-,-⟩:=h.shape;obtain⟨op,hop⟩:∃x,t.op=x:=⟨_,rfl⟩;obtain⟨g,hg⟩:∃x,t.g=x:=⟨_,rfl⟩;obtain⟨nm,hnm⟩:∃x,t.name=x:=⟨_,rfl⟩;obtain⟨so,hso⟩:∃x,t.sort=x:=⟨_,rfl⟩;rw[hop,hg,hnm,hso] at h ⊢;have H:=hid (show Calls Tryz.prog 57 #[kv op g N nn nc nm so A n c,.int .i64 401] (kboxed w op g N nn nc nm so A n c) (GivesI (kboxed w op g N nn nc nm so A n c) ((min (M.kcnt t) 401:Nat):Int)) from kcount_n t (m:=401) (h.up (Ext.alloc w _)) (by omega) (by omega));clear h hop hg hnm hso;go_enter Tryz.func32,Tryz.ntmps32
 go_wp2_with fail
 refine H.out.mono ?_;rintro e w' ⟨rfl,hb⟩;have E:=hid hb;clear hb;go_wp2;go_ret;exact⟨rfl,(Ext.alloc w _).trans E.out⟩
theorem rFew_n (t:M.Tm){v:Value}{w:World}(h:IsTm w t v): Calls Tryz.prog 47 #[v] w (GivesB w (decide (M.kcnt t≤400))):=by
 obtain⟨N,nn,nc,A,n,c,rfl,-,-,-,-,-,-⟩:=h.shape;obtain⟨op,hop⟩:∃x,t.op=x:=⟨_,rfl⟩;obtain⟨g,hg⟩:∃x,t.g=x:=⟨_,rfl⟩;obtain⟨nm,hnm⟩:∃x,t.name=x:=⟨_,rfl⟩;obtain⟨so,hso⟩:∃x,t.sort=x:=⟨_,rfl⟩;rw[hop,hg,hnm,hso] at h ⊢;obtain⟨m,hm⟩:∃m,min (M.kcnt t) 401=m:=⟨_,rfl⟩;have H:=hid (show Calls Tryz.prog 32 #[kv op g N nn nc nm so A n c] (kboxed w op g N nn nc nm so A n c) (GivesI (kboxed w op g N nn nc nm so A n c) (m:Int)) from hm▸rkCount_n t (h.up (Ext.alloc w _)));have HM:=hid (show decide (M.kcnt t≤400)=decide ((m:Int)≤400) by rw[decide_eq_decide];omega);rw[HM.out];clear h hop hg hnm hso hm;go_enter Tryz.func47,Tryz.ntmps47
 go_wp2_with fail
 refine H.out.mono ?_;rintro e w' ⟨rfl,hb⟩;have E:=hid hb;clear hb;go_wp2;go_ret;exact⟨rfl,(Ext.alloc w _).trans E.out⟩
namespace M
end M
end Go.Proofs.YtoenjbkmiphhoaaGreatDoor.Q
