/-
  Layer 10, mathematics: names in order.
-/
import Derived.Test.YtoenjbkmiphhoaaGreatDoorA22
import Derived.Test.YtoenjbkmiphhoaaGreatDoorA24
namespace Go.Proofs.YtoenjbkmiphhoaaGreatDoor.Q
set_option linter.unusedSimpArgs false
set_option linter.unusedVariables false
namespace M
theorem less_irrefl:∀(a:List UInt8),Go.Op.bytesLess a a=false
 | []=>rfl
 | x::r=>by
  have h:(x<x)=False:=by simp
  simp[Go.Op.bytesLess,less_irrefl r]
theorem less_trans:∀{a b c:List UInt8},Go.Op.bytesLess a b=true→Go.Op.bytesLess b c=true→Go.Op.bytesLess a c=true
 | _,[],_,h,_=>by simp[Go.Op.bytesLess] at h
 | _,_::_,[],_,h=>by simp[Go.Op.bytesLess] at h
 | [],_::_,_::_,_,_=>rfl
 | x::a,y::b,z::c,h1,h2=>by
  simp only[Go.Op.bytesLess,Bool.or_eq_true,Bool.and_eq_true,decide_eq_true_eq,beq_iff_eq] at h1 h2 ⊢;rcases h1 with h1|⟨h1,h3⟩
  ·rcases h2 with h2|⟨h2,h4⟩
   ·exact .inl (UInt8.lt_trans h1 h2)
   ·subst h2;exact .inl h1
  ·subst h1;rcases h2 with h2|⟨h2,h4⟩
   ·exact .inl h2
   ·exact .inr ⟨h2,less_trans h3 h4⟩
theorem less_tri:∀{a b:List UInt8},Go.Op.bytesLess a b=false→a≠b→Go.Op.bytesLess b a=true
 | [],[],_,h=>absurd rfl h
 | [],_::_,h,_=>by simp[Go.Op.bytesLess] at h
 | _::_,[],_,_=>rfl
 | x::a,y::b,h1,h2=>by
  simp only[Go.Op.bytesLess,Bool.or_eq_false_iff,decide_eq_false_iff_not,Bool.and_eq_false_imp,beq_iff_eq] at h1;simp only[Go.Op.bytesLess,Bool.or_eq_true,Bool.and_eq_true,decide_eq_true_eq,beq_iff_eq]
  by_cases hxy:x=y
  ·subst hxy;exact .inr ⟨rfl,less_tri (h1.2 rfl) (fun e=>h2 (by rw[e]))⟩
  ·have h3:¬x.toNat<y.toNat:=fun h=>h1.1 (UInt8.lt_iff_toNat_lt.2 h);have h4:x.toNat≠y.toNat:=fun h=>hxy (UInt8.toNat_inj.1 h);exact .inl (UInt8.lt_iff_toNat_lt.2 (by omega))
theorem cmpB_lt:∀(a b:List UInt8),decide (Lib.compareBytes a b<0)=Go.Op.bytesLess a b
 | [],[]=>rfl
 | [],_::_=>rfl
 | _::_,[]=>rfl
 | x::a,y::b=>by
  unfold Lib.compareBytes Go.Op.bytesLess
  by_cases h:x<y
  ·simp[h]
  ·by_cases h2:y<x
   ·have h3:(x==y)=false:=by
     rw[beq_eq_false_iff_ne];rintro rfl;exact absurd h2 (by simp)
    simp[h,h2,h3]
   ·have h3:x=y:=by
     have h4:¬x.toNat<y.toNat:=fun h'=>h (UInt8.lt_iff_toNat_lt.2 h');have h5:¬y.toNat<x.toNat:=fun h'=>h2 (UInt8.lt_iff_toNat_lt.2 h');exact UInt8.toNat_inj.1 (by omega)
    subst h3;simp only[h,if_false];rw[cmpB_lt a b];simp
theorem cmpB_eq:∀(a b:List UInt8),decide (Lib.compareBytes a b=0)=decide (a=b)
 | [],[]=>rfl
 | [],_::_=>by simp[Lib.compareBytes]
 | _::_,[]=>by simp[Lib.compareBytes]
 | x::a,y::b=>by
  unfold Lib.compareBytes
  by_cases h:x<y
  ·have:x≠y:=by rintro rfl;exact absurd h (by simp)
   simp[h,this]
  ·by_cases h2:y<x
   ·have:x≠y:=by rintro rfl;exact absurd h2 (by simp)
    simp[h,h2,this]
   ·have h3:x=y:=by
     have h4:¬x.toNat<y.toNat:=fun h'=>h (UInt8.lt_iff_toNat_lt.2 h');have h5:¬y.toNat<x.toNat:=fun h'=>h2 (UInt8.lt_iff_toNat_lt.2 h');exact UInt8.toNat_inj.1 (by omega)
    subst h3;simp only[h,if_false];rw[cmpB_eq a b];simp
def kAsc (l:List Sg): Prop:=∀(i j:Nat) (x y:Sg),i<j→l[i]?=some x→l[j]?=some y→Go.Op.bytesLess x.name y.name=true
theorem kAsc_nil:kAsc []:=fun i j x y _ h=>by simp at h
theorem kPre_upto {nm:List UInt8}{l:List Sg}{m:Nat}{x:Sg}(ha:kAsc l)(hx:l[m]?=some x)(hb:Go.Op.bytesLess x.name nm=true): kPre nm l (m+1):=by
 intro j y hj hy;rcases Nat.lt_or_ge j m with h|h
 ·exact less_trans (ha j m y x h hy hx) hb
 ·obtain rfl:j=m:=by omega
  rw[hx] at hy;injection hy with hy;subst hy;exact hb
def kPost (nm:List UInt8)(l:List Sg)(k:Nat): Prop:=∀(j:Nat) (x:Sg),k≤j→l[j]?=some x→Go.Op.bytesLess x.name nm=false
theorem kPost_from {nm:List UInt8}{l:List Sg}{m:Nat}{x:Sg}(ha:kAsc l)(hx:l[m]?=some x)(hb:Go.Op.bytesLess x.name nm=false): kPost nm l m:=by
 intro j y hj hy;rcases Nat.eq_or_lt_of_le hj with h|h
 ·subst h;rw[hx] at hy;injection hy with hy;subst hy;exact hb
 ·rcases hq:Go.Op.bytesLess y.name nm with _|_
  ·rfl
  ·rw[less_trans (ha m j x y h hx hy) hq] at hb;cases hb
end M
set_option linter.unusedSimpArgs false
set_option linter.unusedVariables false
open Go.RowKit
def RAt (w:World)(a:Addr)(r:List M.Vl×M.Vl): Prop:=
 ∃A n c N nn nc,(w.cell? a=some (.slice A n c)∧w.cell? (a.add 1)=some (.int .i64 r.2.1)∧w.cell? (a.add 2)=some (.bool r.2.2.1)∧w.cell? (a.add 3)=some (.slice N nn nc))∧VList w (.slice A n c) r.1∧LNum w (.slice N nn nc) r.2.2.2
def RwList (w:World)(l:List (List M.Vl×M.Vl))(v:Value): Prop:=
 ∃A n c,v=.slice A n c∧n=l.length∧n≤c∧c≤maxLen∧∀k r,l[k]?=some r→∃ad,A=some ad∧ad.block<w.heap.size∧RAt w (ad.add (k*4)) r
def FAt (w:World)(a:Addr)(f:M.Fn): Prop:=
 ∃A n c B m d N nn nc,((w.cell? a=some (str f.sg.name)∧w.cell? (a.add 1)=some (.slice A n c)∧w.cell? (a.add 2)=some (.int .i64 f.sg.ret))∧w.cell? (a.add 3)=some (.slice B m d)∧w.cell? (a.add 4)=some (.int .i64 f.els.1)∧w.cell? (a.add 5)=some (.bool f.els.2.1)∧w.cell? (a.add 6)=some (.slice N nn nc))
  ∧ Ints w f.sg.args (.slice A n c)∧RwList w f.rows (.slice B m d)∧LNum w (.slice N nn nc) f.els.2.2
def FnList (w:World)(l:List M.Fn)(v:Value): Prop:=
 ∃A n c,v=.slice A n c∧n=l.length∧n≤c∧c≤maxLen∧∀k f,l[k]?=some f→∃ad,A=some ad∧ad.block<w.heap.size∧FAt w (ad.add (k*7)) f
theorem VList.sub {w w':World}{v:Value}{ls:List M.Vl}(h:VList w v ls)(e:Sub w w'): VList w' v ls:=by
 obtain⟨A,n,c,h1,h2,h3,h4,h5⟩:=h;refine⟨A,n,c,h1,h2,h3,h4,fun k x hx=>?_⟩;obtain⟨ad,ha,hb,B,m,d,g0,g1,g2,g3⟩:=h5 k x hx;exact⟨ad,ha,Nat.lt_of_lt_of_le hb e.1,B,m,d,e.2 _ _ g0,e.2 _ _ g1,e.2 _ _ g2,LNum.sub g3 e⟩
theorem RAt.sub {w w':World}{a:Addr}{r:List M.Vl×M.Vl}(h:RAt w a r)(e:Sub w w'): RAt w' a r:=by
 obtain⟨A,n,c,N,nn,nc,⟨h0,h1,h2,h3⟩,h4,h5⟩:=h;exact⟨A,n,c,N,nn,nc,⟨e.2 _ _ h0,e.2 _ _ h1,e.2 _ _ h2,e.2 _ _ h3⟩,h4.sub e,h5.sub e⟩
theorem RwList.sub {w w':World}{l:List (List M.Vl×M.Vl)}{v:Value}(h:RwList w l v)(e:Sub w w'): RwList w' l v:=by
 obtain⟨A,n,c,h1,h2,h3,h4,h5⟩:=h;refine⟨A,n,c,h1,h2,h3,h4,fun k x hx=>?_⟩;obtain⟨ad,ha,hb,hr⟩:=h5 k x hx;exact⟨ad,ha,Nat.lt_of_lt_of_le hb e.1,hr.sub e⟩
theorem FAt.sub {w w':World}{a:Addr}{f:M.Fn}(h:FAt w a f)(e:Sub w w'): FAt w' a f:=by
 obtain⟨A,n,c,B,m,d,N,nn,nc,⟨⟨h0,h1,h2⟩,h3,h4,h5,h6⟩,h7,h8,h9⟩:=h;exact⟨A,n,c,B,m,d,N,nn,nc,⟨⟨e.2 _ _ h0,e.2 _ _ h1,e.2 _ _ h2⟩,e.2 _ _ h3,e.2 _ _ h4,e.2 _ _ h5,e.2 _ _ h6⟩,h7.sub e,h8.sub e,h9.sub e⟩
theorem FnList.sub {w w':World}{l:List M.Fn}{v:Value}(h:FnList w l v)(e:Sub w w'): FnList w' l v:=by
 obtain⟨A,n,c,h1,h2,h3,h4,h5⟩:=h;refine⟨A,n,c,h1,h2,h3,h4,fun k x hx=>?_⟩;obtain⟨ad,ha,hb,hr⟩:=h5 k x hx;exact⟨ad,ha,Nat.lt_of_lt_of_le hb e.1,hr.sub e⟩
theorem RwList.up {w w':World}{l:List (List M.Vl×M.Vl)}{v:Value}(h:RwList w l v)(e:Ext w w'): RwList w' l v:=h.sub e.sub
theorem FnList.up {w w':World}{l:List M.Fn}{v:Value}(h:FnList w l v)(e:Ext w w'): FnList w' l v:=h.sub e.sub
theorem RwList.shape {w:World}{l:List (List M.Vl×M.Vl)}{v:Value}(h:RwList w l v): ∃A c,v=.slice A l.length c:=by
 obtain⟨A,n,c,h1,h2,_⟩:=h;exact⟨A,c,by rw[h1,h2]⟩
theorem FnList.shape {w:World}{l:List M.Fn}{v:Value}(h:FnList w l v): ∃A c,v=.slice A l.length c:=by
 obtain⟨A,n,c,h1,h2,_⟩:=h;exact⟨A,c,by rw[h1,h2]⟩
theorem RwList.le {w:World}{A:Option Addr}{n c:Nat}{l:List (List M.Vl×M.Vl)}(h:RwList w l (.slice A n c)): n=l.length∧n≤c∧c≤9223372036854775807:=by
 obtain⟨A',n',c',e,h2,h3,h4,_⟩:=h;injection e with e1 e2 e3;subst e1 e2 e3;exact⟨h2,h3,by unfold maxLen at h4;omega⟩
theorem FnList.le {w:World}{A:Option Addr}{n c:Nat}{l:List M.Fn}(h:FnList w l (.slice A n c)): n=l.length∧n≤c∧c≤9223372036854775807:=by
 obtain⟨A',n',c',e,h2,h3,h4,_⟩:=h;injection e with e1 e2 e3;subst e1 e2 e3;exact⟨h2,h3,by unfold maxLen at h4;omega⟩
theorem FnList.nil (w:World): FnList w [] (.slice none 0 0):=⟨none,0,0,rfl,rfl,Nat.le_refl _,Nat.zero_le _,fun k f h=>by simp at h⟩
theorem RwList.nil (w:World): RwList w [] (.slice none 0 0):=⟨none,0,0,rfl,rfl,Nat.le_refl _,Nat.zero_le _,fun k f h=>by simp at h⟩
theorem RwList.get {w:World}{A:Option Addr}{n c:Nat}{l:List (List M.Vl×M.Vl)}(h:RwList w l (.slice A n c)){k:Nat}{r:List M.Vl×M.Vl}(hk:l[k]?=some r):
 ∃ad B m d N nn nc,A=some ad∧(w.cell? (ad.add (k*4))=some (.slice B m d)∧w.cell? ⟨(ad.add (k*4)).block,(ad.add (k*4)).off+1,none⟩=some (.int .i64 r.2.1)∧w.cell? ⟨(ad.add (k*4)).block,(ad.add (k*4)).off+2,none⟩=some (.bool r.2.2.1)∧w.cell? ⟨(ad.add (k*4)).block,(ad.add (k*4)).off+3,none⟩=some (.slice N nn nc))∧VList w (.slice B m d) r.1∧LNum w (.slice N nn nc) r.2.2.2:=by
 obtain⟨A',n',c',e,h2,h3,h4,h5⟩:=h;injection e with e1 e2 e3;subst e1 e2 e3;obtain⟨ad,ha,hb,B,m,d,N,nn,nc,⟨g0,g1,g2,g3⟩,g4,g5⟩:=h5 k r hk;exact⟨ad,B,m,d,N,nn,nc,ha,⟨g0,g1,g2,g3⟩,g4,g5⟩
abbrev fv (nm:List UInt8)(A:Option Addr)(n c:Nat)(rt:Int)(B:Option Addr)(m d:Nat)(es:Int)(eg:Bool)(N:Option Addr)(nn nc:Nat): Value:=.agg #[str nm,.slice A n c,.int .i64 rt,.slice B m d,.int .i64 es,.bool eg,.slice N nn nc]
theorem FnList.get {w:World}{A:Option Addr}{n c:Nat}{l:List M.Fn}(h:FnList w l (.slice A n c)){k:Nat}{f:M.Fn}(hk:l[k]?=some f):
 ∃ad A1 n1 c1 B m d N nn nc,A=some ad∧((w.cell? (ad.add (k*7))=some (str f.sg.name)∧w.cell? ⟨(ad.add (k*7)).block,(ad.add (k*7)).off+1,none⟩=some (.slice A1 n1 c1)∧w.cell? ⟨(ad.add (k*7)).block,(ad.add (k*7)).off+2,none⟩=some (.int .i64 f.sg.ret))∧w.cell? ⟨(ad.add (k*7)).block,(ad.add (k*7)).off+3,none⟩=some (.slice B m d)
  ∧ w.cell? ⟨(ad.add (k*7)).block,(ad.add (k*7)).off+4,none⟩=some (.int .i64 f.els.1)∧w.cell? ⟨(ad.add (k*7)).block,(ad.add (k*7)).off+5,none⟩=some (.bool f.els.2.1)∧w.cell? ⟨(ad.add (k*7)).block,(ad.add (k*7)).off+6,none⟩=some (.slice N nn nc))
  ∧ Ints w f.sg.args (.slice A1 n1 c1)∧RwList w f.rows (.slice B m d)∧LNum w (.slice N nn nc) f.els.2.2:=by
 obtain⟨A',n',c',e,h2,h3,h4,h5⟩:=h;injection e with e1 e2 e3;subst e1 e2 e3;obtain⟨ad,ha,hb,A1,n1,c1,B,m,d,N,nn,nc,⟨⟨g0,g1,g2⟩,g3,g4,g5,g6⟩,g7,g8,g9⟩:=h5 k f hk;exact⟨ad,A1,n1,c1,B,m,d,N,nn,nc,ha,⟨⟨g0,g1,g2⟩,g3,g4,g5,g6⟩,g7,g8,g9⟩
def IsFn (w:World)(f:M.Fn)(v:Value): Prop:=∃A n c B m d N nn nc,v=fv f.sg.name A n c f.sg.ret B m d f.els.1 f.els.2.1 N nn nc∧Ints w f.sg.args (.slice A n c)∧RwList w f.rows (.slice B m d)∧LNum w (.slice N nn nc) f.els.2.2
theorem IsFn.up {w w':World}{f:M.Fn}{v:Value}(h:IsFn w f v)(e:Ext w w'): IsFn w' f v:=by
 obtain⟨A,n,c,B,m,d,N,nn,nc,h1,h2,h3,h4⟩:=h;exact⟨A,n,c,B,m,d,N,nn,nc,h1,h2.up e,h3.up e,h4.up e⟩
theorem box7v {w:World}{k:Nat}{x0 x1 x2 x3 x4 x5 x6:Value}{T:TypeId}(h:Box w k #[x0,x1,x2,x3,x4,x5,x6] T): (w.cell? ⟨k,0,none⟩=some x0∧w.cell? ⟨k,1,none⟩=some x1∧w.cell? ⟨k,2,none⟩=some x2∧w.cell? ⟨k,3,none⟩=some x3∧w.cell? ⟨k,4,none⟩=some x4∧w.cell? ⟨k,5,none⟩=some x5∧w.cell? ⟨k,6,none⟩=some x6)∧k<w.heap.size:=⟨⟨h.k 0,h.k 1,h.k 2,h.k 3,h.k 4,h.k 5,h.k 6⟩,h.lt⟩
theorem box4v {w:World}{k:Nat}{x0 x1 x2 x3:Value}{T:TypeId}(h:Box w k #[x0,x1,x2,x3] T): (w.cell? ⟨k,0,none⟩=some x0∧w.cell? ⟨k,1,none⟩=some x1∧w.cell? ⟨k,2,none⟩=some x2∧w.cell? ⟨k,3,none⟩=some x3)∧k<w.heap.size:=⟨⟨h.k 0,h.k 1,h.k 2,h.k 3⟩,h.lt⟩
namespace M
theorem okAt_some {l:List Fn}{k:Nat}{f:Fn}(h:l[k]?=some f): okAt l k=((decide (k=0)||(match l[k-1]? with|none=>true|some g=>Go.Op.bytesLess g.sg.name f.sg.name))&&fnIs f):=by unfold okAt;rw[h];rfl
theorem mIs_fn {l:List Fn}(h:mIs l=true){k:Nat}{f:Fn}(hk:l[k]?=some f): fnIs f=true:=by
 have h1:=mIs_true.1 h k (List.getElem?_eq_some_iff.1 hk).1;rw[okAt_some hk,Bool.and_eq_true] at h1;exact h1.2
theorem mIs_asc {l:List Fn}(h:mIs l=true): kAsc (l.map Fn.sg):=by
 intro i j x y hij hx hy;rw[List.getElem?_map] at hx hy;obtain⟨f,hf,rfl⟩:=Option.map_eq_some_iff.1 hx;obtain⟨g,hg,rfl⟩:=Option.map_eq_some_iff.1 hy;clear hx hy
 induction j generalizing g with
 | zero=>omega
 | succ j ih=>
  have hl:j+1<l.length:=(List.getElem?_eq_some_iff.1 hg).1;obtain⟨e,he⟩:∃e,l[j]?=some e:=⟨_,List.getElem?_eq_getElem (by omega)⟩;have h1:=mIs_true.1 h (j+1) hl;rw[okAt_some hg,Nat.add_sub_cancel,he,Bool.and_eq_true] at h1;have h2:Go.Op.bytesLess e.sg.name g.sg.name=true:=by
   have:=h1.1;rw[show decide (j+1=0)=false by simp,Bool.false_or] at this;exact this
  rcases Nat.lt_or_ge i j with hlt|hge
  ·exact less_trans (ih hlt e he) h2
  ·obtain rfl:i=j:=by omega
   rw[he] at hf;cases hf;exact h2
theorem mIs_of {l:List Fn}(ha:kAsc (l.map Fn.sg))(hf:∀(k:Nat) (f:Fn),l[k]?=some f→fnIs f=true): mIs l=true:=by
 rw[mIs_true];intro k hk;obtain⟨f,hk'⟩:∃f,l[k]?=some f:=⟨_,List.getElem?_eq_getElem hk⟩;rw[okAt_some hk',hf k f hk',Bool.and_true,Bool.or_eq_true];rcases Nat.eq_zero_or_pos k with h0|h0
 ·left;simpa using h0
 ·right
  obtain⟨g,hg⟩:∃g,l[k-1]?=some g:=⟨_,List.getElem?_eq_getElem (by omega)⟩;rw[hg];exact ha (k-1) k g.sg f.sg (by omega) (by rw[List.getElem?_map,hg];rfl) (by rw[List.getElem?_map,hk'];rfl)
theorem asc_inj {l:List Sg}(ha:kAsc l){i j:Nat}{x y:Sg}(hx:l[i]?=some x)(hy:l[j]?=some y)(h:x.name=y.name): i=j:=by
 rcases Nat.lt_trichotomy i j with h1|h1|h1
 ·have:=ha i j x y h1 hx hy;rw[h,less_irrefl] at this;cases this
 ·exact h1
 ·have:=ha j i y x h1 hy hx;rw[h,less_irrefl] at this;cases this
def fnSays (f:Fn)(vs:List Vl): Vl:=match f.rows.find? fun r=>vSames r.1 vs with|some r=>r.2|none=>f.els
theorem mOf_none {l:List Fn}{s:Sg}(vs:List Vl)(h:∀(k:Nat) (f:Fn),l[k]?=some f→f.sg.name≠s.name): mOf l s vs=(s.ret,false,[]):=by
 have e:(l.find? fun f=>decide (f.sg=s))=none:=by
  rw[List.find?_eq_none];intro f hf;obtain⟨k,hk⟩:=List.getElem?_of_mem hf;have:=h k f hk;simp only[decide_eq_true_iff];intro e;exact this (by rw[e])
 unfold mOf;rw[e]
theorem mOf_at {l:List Fn}{s:Sg}(vs:List Vl)(ha:kAsc (l.map Fn.sg)){k:Nat}{f:Fn}(hk:l[k]?=some f)(hn:f.sg.name=s.name): mOf l s vs=if f.sg=s then fnSays f vs else (s.ret,false,[]):=by
 have key:∀g∈l,g.sg=s→g=f:=by
  intro g hg hs;obtain⟨j,hj⟩:=List.getElem?_of_mem hg;have:=asc_inj ha (x:=g.sg) (y:=f.sg) (by rw[List.getElem?_map,hj];rfl) (by rw[List.getElem?_map,hk];rfl) (by rw[hs,hn]);subst this;rw[hj] at hk;cases hk;rfl
 by_cases hs:f.sg=s
 ·have e:(l.find? fun f=>decide (f.sg=s))=some f:=by
   rcases hq:(l.find? fun f=>decide (f.sg=s)) with _|g
   ·have:=List.find?_eq_none.1 hq f (List.mem_of_getElem? hk);simp[hs] at this
   ·have h1:=List.find?_some hq;have h2:=List.mem_of_find?_eq_some hq;obtain rfl:=key g h2 (by simpa using h1);exact hq
  unfold mOf;rw[e,if_pos hs];rfl
 ·have e:(l.find? fun f=>decide (f.sg=s))=none:=by
   rw[List.find?_eq_none];intro g hg;simp only[decide_eq_true_iff];intro h;rw[key g hg h] at h;exact hs h
  unfold mOf;rw[e,if_neg hs]
theorem take_less {nm:List UInt8}: ∀{l:List Fn} {k:Nat},kPre nm (l.map Fn.sg) k→kPost nm (l.map Fn.sg) k→k≤l.length→(l.takeWhile fun g=>Go.Op.bytesLess g.sg.name nm)=l.take k∧(l.dropWhile fun g=>Go.Op.bytesLess g.sg.name nm)=l.drop k
 | [],k,_,_,hk=>by
  obtain rfl:k=0:=by simpa using hk
  exact⟨rfl,rfl⟩
 | x::r,0,_,hq,_=>by
  have h:=hq 0 x.sg (Nat.le_refl _) rfl;rw[List.takeWhile_cons,List.dropWhile_cons,h];exact⟨rfl,rfl⟩
 | x::r,k+1,hp,hq,hk=>by
  have h:=hp 0 x.sg (Nat.succ_pos _) rfl;obtain⟨h1,h2⟩:=take_less (nm:=nm) (l:=r) (k:=k) (fun j y hj hy=>hp (j+1) y (by omega) (by simpa using hy)) (fun j y hj hy=>hq (j+1) y (by omega) (by simpa using hy)) (by simpa using hk);rw[List.takeWhile_cons,List.dropWhile_cons,h,if_pos rfl,if_pos rfl,h1,h2];exact⟨rfl,rfl⟩
theorem drop_get {α:Type}{l:List α}{k:Nat}{x:α}(h:l[k]?=some x): l.drop k=x::l.drop (k+1):=by
 obtain⟨hk,he⟩:=List.getElem?_eq_some_iff.1 h;rw[List.drop_eq_getElem_cons hk,he]
theorem mPut_new {l:List Fn}{f:Fn}{k:Nat}(hp:kPre f.sg.name (l.map Fn.sg) k)(hq:kPost f.sg.name (l.map Fn.sg) k)(hk:k≤l.length)(hn:∀x,l[k]?=some x→x.sg.name≠f.sg.name): mPut l f=l.take k++f::l.drop k:=by
 obtain⟨h1,h2⟩:=take_less hp hq hk;unfold mPut;rw[h1,h2];congr 2;rcases hx:l[k]? with _|x
 ·rw[List.drop_eq_nil_of_le (by rw[List.getElem?_eq_none_iff] at hx;exact hx)];rfl
 ·rw[drop_get hx,List.dropWhile_cons,show decide (x.sg.name=f.sg.name)=false by simpa using hn x hx];rfl
theorem mPut_old {l:List Fn}{f g:Fn}{k:Nat}(ha:kAsc (l.map Fn.sg))(hp:kPre f.sg.name (l.map Fn.sg) k)(hq:kPost f.sg.name (l.map Fn.sg) k)(hg:l[k]?=some g)(hn:g.sg.name=f.sg.name): mPut l f=l.take k++f::l.drop (k+1):=by
 obtain⟨h1,h2⟩:=take_less hp hq (Nat.le_of_lt (List.getElem?_eq_some_iff.1 hg).1);unfold mPut;rw[h1,h2];congr 2;rw[drop_get hg,List.dropWhile_cons,show decide (g.sg.name=f.sg.name)=true by simpa using hn,if_pos rfl];rcases hx:l[k+1]? with _|x
 ·rw[List.drop_eq_nil_of_le (by rw[List.getElem?_eq_none_iff] at hx;exact hx)];rfl
 ·have hne:x.sg.name≠f.sg.name:=fun e=>by
   have:=asc_inj ha (i:=k+1) (j:=k) (x:=x.sg) (y:=g.sg) (by rw[List.getElem?_map,hx];rfl) (by rw[List.getElem?_map,hg];rfl) (by rw[e,hn]);omega
  rw[drop_get hx,List.dropWhile_cons,show decide (x.sg.name=f.sg.name)=false by simpa using hne];rfl
theorem kcnts_at':∀{l:List Tm} {k:Nat} {t:Tm},l[k]?=some t→kcnt t+l.length≤kcnts l+1
 | [],_,_,h=>by simp at h
 | x::r,0,t,h=>by
  simp at h;subst h;have:=kcnts_len r;simp[kcnts];omega
 | x::r,k+1,t,h=>by
  have:=kcnts_at' (l:=r) (k:=k) (t:=t) (by simpa using h);have:=kcnt_pos x;simp[kcnts];omega
end M
set_option linter.unusedSimpArgs false
set_option linter.unusedVariables false
open Go.RowKit
namespace M
theorem any_take {α:Type}{l:List α}{k:Nat}{x:α}{p:α→Bool}(h:l[k]?=some x): (l.take (k+1)).any p=((l.take k).any p||p x):=by
 rw[List.take_add_one,h,List.any_append];simp
end M
theorem VList.at_ {w:World}{A:Option Addr}{n c:Nat}{l:List M.Vl}(h:VList w (.slice A n c) l){k:Nat}{x:M.Vl}(hx:l[k]?=some x):
 ∃ad N nn nc,A=some ad∧(w.cell? (ad.add (k*3))=some (.int .i64 x.1)∧w.cell? ⟨(ad.add (k*3)).block,(ad.add (k*3)).off+1,none⟩=some (.bool x.2.1)∧w.cell? ⟨(ad.add (k*3)).block,(ad.add (k*3)).off+2,none⟩=some (.slice N nn nc))∧IsVl w x (vv x.1 x.2.1 N nn nc):=by
 obtain⟨ad,N,nn,nc,rfl,c0,c1,c2,hv⟩:=h.get hx;exact⟨ad,N,nn,nc,rfl,⟨c0,c1,c2⟩,N,nn,nc,rfl,hv⟩
theorem M.mComp_zcmp {op:Int}(h:op=19∨op=20∨op=21∨op=22)(x y:M.Vl): M.mComp op (M.zcmp (M.cz x) (M.cz y))=M.mTold op [x,y]:=by
 have hs:(M.cz x<M.cz y∧M.zcmp (M.cz x) (M.cz y)=-1)∨(M.cz x=M.cz y∧M.zcmp (M.cz x) (M.cz y)=0)∨(M.cz y<M.cz x∧M.zcmp (M.cz x) (M.cz y)=1):=by
  rcases Int.lt_trichotomy (M.cz x) (M.cz y) with h|h|h
  ·exact .inl ⟨h,M.zcmp_lt h⟩
  ·exact .inr (.inl ⟨h,M.zcmp_same h⟩)
  ·exact .inr (.inr ⟨h,M.zcmp_gt h⟩)
 have e:M.mTold op [x,y]=if op=19 then decide (M.cz x≤M.cz y) else if op=20 then decide (M.cz x<M.cz y) else if op=21 then decide (M.cz y≤M.cz x) else decide (M.cz y<M.cz x):=by
  rcases h with rfl|rfl|rfl|rfl<;>rfl
 rw[e];generalize M.cz x=X at *;generalize M.cz y=Y at *;unfold M.mComp;rcases hs with⟨h1,h2⟩|⟨h1,h2⟩|⟨h1,h2⟩<;>rw[h2]<;>rcases h with rfl|rfl|rfl|rfl<;>simp<;>omega
end Go.Proofs.YtoenjbkmiphhoaaGreatDoor.Q
