/-
  Once more the walk of a region that draws its order: its calls may turn blocks (a relation R holds between a call's worlds), what is late may turn more (S); two late ones in either order.
-/
import Derived.Test.YtoenjbkmiphhoaaGreatDoorA13
namespace Go.Proofs.YtoenjbkmiphhoaaGreatDoor.Q
set_option linter.unusedSimpArgs false
set_option linter.unusedVariables false
open Go.RowKit
structure RelOk (R S:World→World→Prop)(B:Nat): Prop where
 refl:∀w,R w w
 trans:∀{a b c},R a b→R b c→R a c
 ext:∀{a b},Ext a b→R a b
 size:∀{a b},R a b→a.heap.size≤b.heap.size
 box:∀{a b} {g:Nat} {cs:Array Value} {t:TypeId},R a b→Box a g cs t→B≤g→Box b g cs t
 weak:∀{a b},R a b→S a b
 lsize:∀{a b},S a b→a.heap.size≤b.heap.size
 late:∀{a b c},S a b→S b c→S a c
def KeptB (B:Nat)(X:List Nat)(w w':World): Prop:=Below 0 w w'∧∀k,k<w.heap.size→k<B→k∉X→w'.heap[k]?=w.heap[k]?
theorem KeptB.trans {B:Nat}{X:List Nat}{a b c:World}(h:KeptB B X a b)(k:KeptB B X b c): KeptB B X a c:=
 ⟨h.1.trans k.1,fun i hi hb hx=>(k.2 i (Nat.lt_of_lt_of_le hi h.1.size) hb hx).trans (h.2 i hi hb hx)⟩
theorem _root_.Go.Proofs.YtoenjbkmiphhoaaGreatDoor.Box.keptX {B:Nat}{X:List Nat}{w w':World}{g:Nat}{cs:Array Value}{t:TypeId}(h:Box w g cs t)(k:KeptB B X w w')(hl:g<B)(hg:g∉X): Box w' g cs t:=(k.2 g h.lt hl hg).trans h
def KeptC (X:List Nat)(p:Addr)(v:Value)(w w':World): Prop:=Kept X w w'∧(w.cell? p=some v→w'.cell? p=some v)
theorem relC (X:List Nat)(p:Addr)(v:Value){B:Nat}(hX:∀x∈X,x<B): RelOk (KeptC X p v) (fun w w'=>w.heap.size≤w'.heap.size) B where
 refl:=fun w=>⟨Kept.refl _ _,id⟩
 trans:=fun h k=>⟨h.1.trans k.1,fun c=>k.2 (h.2 c)⟩
 ext:=fun h=>⟨h.kept X,fun c=>h.cell c⟩
 size:=fun h=>h.1.1.size
 box:=fun h hb hg=>hb.kept h.1 fun hx=>by have:=hX _ hx;omega
 weak:=fun h=>h.1.1.size
 lsize:=fun h=>h
 late:=fun h k=>Nat.le_trans h k
theorem relB (X:List Nat){B:Nat}(hX:∀x∈X,x<B): RelOk (Kept X) (KeptB B X) B where
 refl:=fun w=>Kept.refl _ _
 trans:=fun h k=>h.trans k
 ext:=fun h=>h.kept X
 size:=fun h=>h.1.size
 box:=fun h hb hg=>hb.kept h fun hx=>by have:=hX _ hx;omega
 weak:=fun h=>⟨h.1,fun k hk _ hx=>h.2 k hk hx⟩
 lsize:=fun h=>h.1.size
 late:=fun h k=>h.trans k
section
variable {P:Program} {ops:Array Oper} {Q:Exit→Act→World→Prop} {V:Nat→Nat→Value}
def NewOf (P:Program)(o:Oper)(z:TypeId×Array Value)(v:Nat→Value): Prop:=o.guard=none∧∀(a:Act) w,(execOp a.eval o).run P w=.ok (.value (v w.heap.size)) (w.alloc (.cells z.2 z.1))
def mputD (V:Nat→Nat→Value)(ops:Array Oper)(D:Nat→Option Nat)(j:Nat)(a:Act): Act:=match D j with|some g=>a.put (dstAt ops j) (V j g)|none=>a
def mputs (V:Nat→Nat→Value)(ops:Array Oper)(D:Nat→Option Nat): List Nat→Act→Act
 | [],a=>a
 | j::r,a=>mputs V ops D r (mputD V ops D j a)
theorem mputD_put {D:Nat→Option Nat}{j:Nat}{x:Option Tmp}{v:Value}{a:Act}(h:∀d,dstAt ops j=some d→x≠some d): mputD V ops D j (a.put x v)=(mputD V ops D j a).put x v:=by
 unfold mputD
 split
 ·exact Act.put_comm a v _ (fun d hd he=>h d he hd)
 ·rfl
theorem mputs_put {D:Nat→Option Nat}{x:Option Tmp}{v:Value}: ∀(js:List Nat) (a:Act),(∀j∈js,∀d,dstAt ops j=some d→x≠some d)→mputs V ops D js (a.put x v)=(mputs V ops D js a).put x v
 | [],_,_=>rfl
 | j::r,a,h=>by
  unfold mputs;rw[mputD_put (h j List.mem_cons_self)];exact mputs_put r _ (fun j' hj'=>h j' (List.mem_cons_of_mem _ hj'))
theorem mputs_off {D:Nat→Option Nat}{j g:Nat}: ∀(js:List Nat) (a:Act),j∉js→mputs V ops (upd D j g) js a=mputs V ops D js a
 | [],_,_=>rfl
 | k::r,a,h=>by
  unfold mputs mputD;rw[upd_other (fun e:k=j=>h (by rw[e];exact List.mem_cons_self))];exact mputs_off r _ (fun h'=>h (List.mem_cons_of_mem _ h'))
theorem mputs_upd {D:Nat→Option Nat}{j g:Nat}(hD:D j=none): ∀(js:List Nat) (a:Act),j∈js→Slots ops js→mputs V ops (upd D j g) js a=(mputs V ops D js a).put (dstAt ops j) (V j g)
 | [],_,h,_=>by cases h
 | k::r,a,h,hs=>by
  unfold mputs
  by_cases hk:k=j
  ·subst hk;have hn:=(List.nodup_cons.1 hs.1).1;rw[mputs_off r _ hn];unfold mputD;rw[upd_self,hD];exact mputs_put r a (fun j' hj' d hd he=>hs.2 j' (List.mem_cons_of_mem _ hj') k List.mem_cons_self (fun e=>hn (e▸hj')) d hd he)
  ·have hj:j∈r:=(List.mem_cons.1 h).resolve_left (fun e=>hk e.symm);have:mputD V ops (upd D j g) k a=mputD V ops D k a:=by unfold mputD;rw[upd_other hk]
   rw[this];exact mputs_upd hD r _ hj hs.tail
theorem wpOp_mputs {i:Nat}{oi:Oper}(hoi:ops[i]?=some oi)(hsi:∀cs b,oi.op≠.select cs b)(hQ:∀c a d v w,Q (.panic c) (Act.put a d v) w↔Q (.panic c) a w){D:Nat→Option Nat}{w:World}:
 ∀(js:List Nat) (K:Act→World→Prop) (a:Act),apartAll ops i js=true→wpOp P ops Q i K a w→wpOp P ops Q i (fun a' w'=>∃a0,a'=mputs V ops D js a0∧K a0 w') (mputs V ops D js a) w
 | [],K,a,_,h=>wpOp_mono (fun a' w' hk=>⟨a',rfl,hk⟩) h
 | j::r,K,a,hap,h=>by
  unfold mputs;obtain⟨oj,hoj,ha⟩:=apartAll_of hoi hap List.mem_cons_self;obtain⟨a1,a2,a3⟩:=Oper.apart_spec ha;have hd:dstAt ops j=oj.dst:=by unfold dstAt;rw[hoj];rfl
  have step:wpOp P ops Q i (fun a' w'=>∃a0,a'=mputD V ops D j a0∧K a0 w') (mputD V ops D j a) w:=by
   unfold mputD
   split
   ·rw[hd];exact wpOp_through hoi a1 a2 hsi (fun c a w=>(hQ c a _ _ w).2) h
   ·exact wpOp_mono (fun a' w' hk=>⟨a',rfl,hk⟩) h
  refine wpOp_mono ?_ (wpOp_mputs hoi hsi hQ r _ _ (apartAll_tail hap) step);rintro a' w' ⟨a0,rfl,a00,rfl,hk⟩;exact⟨a00,rfl,hk⟩
theorem yields_mputs {i:Nat}{oi:Oper}{S:World→Prop}{v:Value}(hoi:ops[i]?=some oi)(hsi:∀cs b,oi.op≠.select cs b){D:Nat→Option Nat}:
 ∀(js:List Nat) (a:Act),apartAll ops i js=true→YieldsIf P ops S oi v a→YieldsIf P ops S oi v (mputs V ops D js a)
 | [],_,_,h=>h
 | j::r,a,hap,h=>by
  unfold mputs;refine yields_mputs hoi hsi r _ (apartAll_tail hap) ?_;obtain⟨oj,hoj,ha⟩:=apartAll_of hoi hap List.mem_cons_self;obtain⟨a1,a2,a3⟩:=Oper.apart_spec ha;have hd:dstAt ops j=oj.dst:=by unfold dstAt;rw[hoj];rfl
  unfold mputD
  split
  ·rw[hd];exact h.of_same (execOp_put oi hsi a _ _ a1) (wanted_put oi a _ _ a1)
  ·exact h
theorem wpOp_new {j:Nat}{o:Oper}{z:TypeId×Array Value}(ho:ops[j]?=some o)(hz:NewOf P o z (V j)){K:Act→World→Prop}{a:Act}{w:World}
 (h:K (a.put (dstAt ops j) (V j w.heap.size)) (w.alloc (.cells z.2 z.1))):wpOp P ops Q j K a w:=by
 obtain⟨h2,h3⟩:=hz;have hd:dstAt ops j=o.dst:=by unfold dstAt;rw[ho];rfl
 have hw:Region.wanted o (yielded ops a.tmps)=true:=by unfold Region.wanted;rw[h2]
 unfold wpOp;simp only[ho,hw,if_true];refine .inl ?_;unfold Oper.wp;rw[h3,Oper.upon_value];rw[hd] at h;exact h
end
section
variable {P:Program} {ops:Array Oper} {Q:Exit→Act→World→Prop}
def wpM (P:Program)(ops:Array Oper)(Q:Exit→Act→World→Prop)(R S:World→World→Prop)(late:List Nat): Nat→Array Bool→Act→World→Prop
 | 0,listed,a,w=>Region.ready .any ops listed=[]∧Q .normal a w
 | fuel+1,listed,a,w=>
  (Region.ready .any ops listed=[]→Q .normal a w) ∧
  ∀i∈Region.ready .any ops listed,wpOp P ops Q i (fun a' w'=>((i∈late∧S w w')∨R w w')∧wpM P ops Q R S late fuel (listed.setIfInBounds i true) a' w') a w
theorem wpAny_of_M {R S:World→World→Prop}{late:List Nat}: ∀(fuel:Nat) (listed:Array Bool) (a:Act) (w:World),wpM P ops Q R S late fuel listed a w→wpAny P .any ops Q fuel listed a w
 | 0,_,_,_,h=>h
 | fuel+1,_,_,_,h=>⟨h.1,fun i hi=>wpOp_mono (fun a' w' h'=>wpAny_of_M fuel _ a' w' h'.2) (h.2 i hi)⟩
theorem wpM_first {R S:World→World→Prop}{B:Nat}(H:RelOk R S B){late:List Nat}{wl:Bool}{i:Nat}{oi:Oper}{v:Value}(hi:ops[i]?=some oi)(hsel:∀(j:Nat) (o:Oper) cs b,ops[j]?=some o→o.op≠.select cs b)
 (hQ:∀c a w,Q (.panic c) (a.put oi.dst v) w→Q (.panic c) a w) (hlate:wl=true∨∀j∈late,i∈cover ops 6 (predsD ops j)) :
 ∀(fuel:Nat) (listed:Array Bool) (a:Act) (w:World),DC ops listed →
  (∀j oj,ops[j]?=some oj→j≠i→listed.getD j true=false→(∀e∈oj.after,Region.binds .any e=true→e.on≠i)→oi.apart ops oj=true) →
  i∈Region.ready .any ops listed→YieldsIf P ops (fun w'=>(wl=true∧S w w')∨R w w') oi v a →
  wpM P ops Q R S late fuel (listed.setIfInBounds i true) (a.put oi.dst v) w→wpM P ops Q R S late (fuel+1) listed a w:=by
 intro fuel
 induction fuel with
 | zero=>
  intro listed a w _ _ hr hy HH;refine⟨fun h=>(by rw[h] at hr;cases hr),fun j hj=>?_⟩
  by_cases hji:j=i
  ·subst hji;exact hy.wpOp hi (.inr (H.refl w)) ⟨.inr (H.refl w),HH⟩
  ·have:=ready_mono hj hji;rw[HH.1] at this;cases this
 | succ fuel ih=>
  intro listed a w hdc hfree hr hy HH;refine⟨fun h=>(by rw[h] at hr;cases hr),fun j hj=>?_⟩
  by_cases hji:j=i
  ·subst hji;exact hy.wpOp hi (.inr (H.refl w)) ⟨.inr (H.refl w),HH⟩
  ·have h1:=HH.2 j (ready_mono hj hji);obtain⟨hjun,oj,hoj,hall⟩:=mem_ready.1 hj;have hiun:=(mem_ready.1 hr).1;have hnot:∀e∈oj.after,Region.binds .any e=true→e.on≠i:=fun e he hb heq=>by
    have h1:=hall e he hb;have h0:=hiun;rw[heq] at h1;rcases Nat.lt_or_ge i listed.size with h'|h'
    ·simp[h'] at h0 h1;rw[h0] at h1;cases h1
    ·simp[Array.getElem?_eq_none h'] at h1
   have h2:=wpOp_putIf hoj (hfree j oj hoj hji hjun hnot) (fun cs b=>hsel i oi cs b hi) (fun cs b=>hsel j oj cs b hoj) hQ hy h1
   have hfree':∀k ok,ops[k]?=some ok→k≠i→(listed.setIfInBounds j true).getD k true=false →
    (∀e∈ok.after,Region.binds .any e=true→e.on≠i)→oi.apart ops ok=true:=fun k ok hk hki hun hno=>by
    refine hfree k ok hk hki ?_ hno
    by_cases hjk:j=k
    ·subst hjk;exact hjun
    ·rw[getD_set_ne true hjk] at hun;exact hun
   refine wpOp_mono (fun a' w' h3=>⟨h3.2.1,ih (listed.setIfInBounds j true) a' w' (hdc.set_ hj) hfree' (ready_mono hr (Ne.symm hji)) ?_ ?_⟩) h2
   ·refine h3.1.imp (fun⟨hw,hv⟩=>⟨hw,fun w'' hs=>hv w'' ?_⟩) id;have hk:S w w':=by
     rcases h3.2.1 with hlj|he
     ·exact hlj.2
     ·exact H.weak he
    rcases hs with⟨h1,h2⟩|hs
    ·exact .inl ⟨h1,H.late hk h2⟩
    ·rcases h3.2.1 with hlj|he
     ·rcases hlate with hl|hl
      ·exact .inl ⟨hl,H.late hk (H.weak hs)⟩
      ·exact absurd hiun (on_of_late hdc hj (hl j hlj.1))
     ·exact .inr (H.trans he hs)
   ·rw[Array.setIfInBounds_comm _ _ hji];exact h3.2.2
def latesM:List (Nat×Nat)→List Nat
 | []=>[]
 | (i,k)::r=>if k=4∨k=7 then i::latesM r else latesM r
def grow (G:Nat→Prop)(w w':World)(k:Nat): Prop:=G k∨(w.heap.size≤k∧k<w'.heap.size)
def WM (P:Program)(ops:Array Oper)(Q:Exit→Act→World→Prop)(V:Nat→Nat→Value)(R S:World→World→Prop)(A:Nat→TypeId×Array Value)(B:Nat): List (Nat×Nat)→(Nat→Prop)→Act→World→Prop
 | [],_,a,w=>Q .normal a w
 | (i,0)::r,G,a,w=>∃o v,ops[i]?=some o∧YieldsIf P ops (fun w'=>R w w') o v a∧WM P ops Q V R S A B r G (a.put o.dst v) w
 | (i,1)::r,G,a,w=>wpOp P ops Q i (fun a' w'=>R w w'∧WM P ops Q V R S A B r (grow G w w') a' w') a w
 | (i,2)::r,G,a,w=>∀w1,Ext w w1→wpOp P ops Q i (fun a' w'=>R w1 w'∧WM P ops Q V R S A B r (grow G w1 w') a' w') a w1
 | (i,3)::r,G,a,w=>∀g w1,Ext w w1→Box w1 g (A i).2 (A i).1→B≤g→¬G g→WM P ops Q V R S A B r (fun k=>k=g∨G k) (a.put (dstAt ops i) (V i g)) w1
 | (i,4)::r,G,a,w=>wpOp P ops Q i (fun a' w'=>S w w'∧WM P ops Q V R S A B r G a' w') a w
 | (i,5)::r,G,a,w=>∃o v,ops[i]?=some o∧YieldsIf P ops (fun w'=>S w w') o v a∧WM P ops Q V R S A B r G (a.put o.dst v) w
 | (i,6)::r,G,a,w=>(∀w1,Ext w w1→wpOp P ops Q i (fun a' w'=>R w1 w'∧WM P ops Q V R S A B r (grow G w1 w') a' w') a w1) ∧
  (match r with
  | (m,_)::r'=>∀w1,Ext w w1→wpOp P ops Q m (fun a' w'=>R w1 w'∧∀w2,Ext w' w2→wpOp P ops Q i (fun a'' w''=>R w2 w''∧WM P ops Q V R S A B r' (grow (grow G w1 w') w2 w'') a'' w'') a' w2) a w1
  | []=>False)
 | (i,7)::r,G,a,w=>
  (match r with
  | (m,_)::r'=>wpOp P ops Q i (fun a' w'=>S w w'∧wpOp P ops Q m (fun a'' w''=>S w' w''∧WM P ops Q V R S A B r' G a'' w'') a' w') a w∧wpOp P ops Q m (fun a' w'=>S w w'∧wpOp P ops Q i (fun a'' w''=>S w' w''∧WM P ops Q V R S A B r' G a'' w'') a' w') a w
  | []=>False)
 | (i,8)::r,G,a,w=>
  (match r with
  | (c,_)::(m,_)::r'=>
   wpOp P ops Q i (fun a1 w1=>R w w1∧wpOp P ops Q c (fun a2 w2=>R w1 w2∧wpOp P ops Q m (fun a3 w3=>R w2 w3∧WM P ops Q V R S A B r' G a3 w3) a2 w2) a1 w1∧wpOp P ops Q m (fun a2 w2=>R w1 w2∧wpOp P ops Q c (fun a3 w3=>R w2 w3∧WM P ops Q V R S A B r' G a3 w3) a2 w2) a1 w1) a w ∧
   wpOp P ops Q m (fun a1 w1=>R w w1∧wpOp P ops Q i (fun a2 w2=>R w1 w2∧wpOp P ops Q c (fun a3 w3=>R w2 w3∧WM P ops Q V R S A B r' G a3 w3) a2 w2) a1 w1) a w
  | _=>False)
 | (_,_+9)::_,_,_,_=>False
def planM (ops:Array Oper)(late:List Nat): List (Nat×Nat)→Array Bool→Bool
 | [],l=>(Region.ready .any ops l).isEmpty
 | (i,k)::r,l=>(Region.ready .any ops l).contains i&&!(pend r).contains i&&planM ops late r (l.setIfInBounds i true) &&
  (match k with
  | 0=>Region.free .any ops l i&&apartAll ops i (pend r)&&aheadOf ops i late
  | 1=>(Region.ready .any ops l==[i])&&(pend r).isEmpty
  | 2=>(Region.ready .any ops (listAll l (pend r))==[i])&&apartAll ops i (pend r)
  | 3=>(Region.ready .any ops (listAll l (pend r))==[i])&&apartAll ops i (pend r)
  | 4=>(Region.ready .any ops l==[i])&&(pend r).isEmpty&&late.contains i
  | 5=>Region.free .any ops l i&&apartAll ops i (pend r)
  | 6=>(match r with
   | (m,km)::r'=>(km==2)&&(Region.ready .any ops l).contains m&&(Region.ready .any ops (listAll l (pend r'))).all (fun j=>j==i||j==m)&&apartAll ops i (pend r')&&apartAll ops m (pend r') &&
    (Region.ready .any ops (l.setIfInBounds m true)).contains i&&planM ops late r' ((l.setIfInBounds m true).setIfInBounds i true)&&(Region.ready .any ops (listAll (l.setIfInBounds m true) (pend r'))==[i])
   | []=>false)
  | 7=>(match r with
   | (m,km)::r'=>(km==4)&&(pend r').isEmpty&&(Region.ready .any ops l).contains m&&(Region.ready .any ops l).all (fun j=>j==i||j==m)&&late.contains i&&late.contains m &&
    (Region.ready .any ops (l.setIfInBounds i true)==[m])&&(Region.ready .any ops (l.setIfInBounds m true)==[i])&&planM ops late r' ((l.setIfInBounds m true).setIfInBounds i true)
   | []=>false)
  | 8=>(match r with
   | (c,kc)::(m,km)::r'=>(kc==9)&&(km==10)&&(pend r').isEmpty&&(Region.ready .any ops l).contains m&&(Region.ready .any ops l).all (fun j=>j==i||j==m) &&
    (Region.ready .any ops (l.setIfInBounds i true)).contains c&&(Region.ready .any ops (l.setIfInBounds i true)).contains m&&(Region.ready .any ops (l.setIfInBounds i true)).all (fun j=>j==c||j==m) &&
    (Region.ready .any ops (l.setIfInBounds m true)==[i])&&(Region.ready .any ops ((l.setIfInBounds i true).setIfInBounds c true)==[m])&&(Region.ready .any ops ((l.setIfInBounds i true).setIfInBounds m true)==[c])&&planM ops late r' (((l.setIfInBounds i true).setIfInBounds c true).setIfInBounds m true)
   | _=>false)
  | 9=>true
  | 10=>true
  | _=>false)
end
section
variable {P:Program} {ops:Array Oper} {Q:Exit→Act→World→Prop}
theorem slots_ofM {late:List Nat}: ∀(p:List (Nat×Nat)) (l:Array Bool),planM ops late p l=true→Slots ops (pend p)
 | [],_,_=>⟨List.nodup_nil,by intro j h;cases h⟩
 | (i,k)::r,l,h=>by
  unfold planM at h;simp only[Bool.and_eq_true] at h;obtain⟨⟨⟨h0,h3⟩,h4⟩,h5⟩:=h;have ih:=slots_ofM r _ h4
  by_cases hk:k=3
  ·subst hk;simp only[Bool.and_eq_true] at h5;have h2:=h5.2;have hp:pend ((i,3)::r)=i::pend r:=rfl;rw[hp];have hi:i∉pend r:=by simpa using h3
   have key:∀j∈pend r,∀d,dstAt ops j=some d→dstAt ops i≠some d:=by
    intro j hj d hd;have hr:i∈Region.ready .any ops l:=by simpa using h0
    obtain⟨_,oi,hoi,_⟩:=mem_ready.1 hr;obtain⟨oj,hoj,ha⟩:=apartAll_of hoi h2 hj;obtain⟨a1,a2,a3⟩:=Oper.apart_spec ha;unfold dstAt at *;rw[hoj] at hd;rw[hoi];exact a2 d hd
   refine⟨List.nodup_cons.2 ⟨hi,ih.1⟩,?_⟩;intro j hj j' hj' hne d hd;rcases List.mem_cons.1 hj with e|q5<;>rcases List.mem_cons.1 hj' with e'|q6
   ·exact absurd (e.trans e'.symm) hne
   ·subst e;exact fun he=>key j' q6 d he hd
   ·subst e';exact key j q5 d hd
   ·exact ih.2 j q5 j' q6 hne d hd
  ·have hp:pend ((i,k)::r)=pend r:=by simp[pend,hk]
   rw[hp];exact ih
theorem WM.sound {V:Nat→Nat→Value}{R S:World→World→Prop}{A:Nat→TypeId×Array Value}{B:Nat}(H:RelOk R S B){late:List Nat}(hs:Region.noSelect ops=true)(hQ:∀c a d v w,Q (.panic c) (Act.put a d v) w↔Q (.panic c) a w): ∀(n:Nat) (plan:List (Nat×Nat)) (fuel:Nat) (listed:Array Bool) (D:Nat→Option Nat) (G:Nat→Prop) (a:Act) (w wA:World),
 fuel+plan.length≤n→planM ops late plan listed=true→(∀j∈pend plan,∃o,ops[j]?=some o∧NewOf P o (A j) (V j))→need D plan≤fuel→DC ops (listP D (pend plan) listed) →
 (∀j∈pend plan,∀g,D j=some g→B≤g∧¬G g∧Box wA g (A j).2 (A j).1) →
 (∀j∈pend plan,∀k∈pend plan,∀g,D j=some g→D k=some g→j=k) →
 Ext w wA→((∀j∈pend plan,D j=none)→wA=w)→B≤wA.heap.size→(∀g,G g→g<wA.heap.size) →
 WM P ops Q V R S A B plan G a w→wpM P ops Q R S late fuel (listP D (pend plan) listed) (mputs V ops D (pend plan) a) wA:=by
 intro n
 induction n with
 | zero=>
  intro plan fuel listed D G a w wA hn hp hA hf hdc hD hI hE hw hB hG h
  match plan with
  | []=>
   have e:wA=w:=hw (by intro j hj;cases hj);subst e;have hr:Region.ready .any ops listed=[]:=by simpa [planM] using hp
   match fuel with
   | 0=>exact⟨hr,h⟩
   | f+1=>simp at hn
  | _::_=>simp at hn
 | succ n ih=>
  intro plan fuel listed D G a w wA hn hp hA hf hdc hD hI hE hw hB hG h
  have early:∀(f:Nat) (j:Nat),fuel=f+1→j∈pend plan→D j=none→j∈Region.ready .any ops (listP D (pend plan) listed) →
   wpOp P ops Q j (fun a' w'=>((j∈late∧S wA w')∨R wA w')∧wpM P ops Q R S late f ((listP D (pend plan) listed).setIfInBounds j true) a' w') (mputs V ops D (pend plan) a) wA:=by
   intro f j hfu hj hDj hjr;obtain⟨o,ho,hz⟩:=hA j hj;refine wpOp_new ho hz ⟨.inr (H.ext (Ext.alloc _ _)),?_⟩;have hsl:=slots_ofM plan listed hp;have hdc':=hdc.set_ hjr;rw[←listP_upd (g:=wA.heap.size) hDj (pend plan) listed hj hsl.1] at hdc';rw[←mputs_upd hDj (pend plan) a hj hsl,←listP_upd (g:=wA.heap.size) hDj (pend plan) listed hj hsl.1];have hnu:=(need_upd (g:=wA.heap.size) hDj plan).2 hj;refine ih plan f listed (upd D j wA.heap.size) G a w _ (by omega) hp hA (by omega) hdc' ?_ ?_ (hE.alloc' _) (fun h0=>?_) ?_ ?_ h
   ·intro k hk g hg
    by_cases hkj:k=j
    ·subst hkj;rw[upd_self] at hg;injection hg with hg;subst hg;exact⟨hB,fun hx=>Nat.lt_irrefl _ (hG _ hx),Box.new _ _ _⟩
    ·rw[upd_other hkj] at hg;obtain⟨b1,b2,b3⟩:=hD k hk g hg;exact⟨b1,b2,b3.alloc _⟩
   ·intro k hk k' hk' g hg hg'
    by_cases hkj:k=j<;>by_cases hkj':k'=j
    ·rw[hkj,hkj']
    ·rw[hkj,upd_self] at hg;rw[upd_other hkj'] at hg';injection hg with hg;subst hg;exact absurd (hD k' hk' _ hg').2.2.lt (Nat.lt_irrefl _)
    ·rw[hkj',upd_self] at hg';rw[upd_other hkj] at hg;injection hg' with hg';subst hg';exact absurd (hD k hk _ hg).2.2.lt (Nat.lt_irrefl _)
    ·rw[upd_other hkj] at hg;rw[upd_other hkj'] at hg';exact hI k hk k' hk' g hg hg'
   ·have:=h0 j hj;rw[upd_self] at this;cases this
   ·exact Nat.le_trans hB (Ext.alloc wA (.cells (A j).2 (A j).1)).size
   ·exact fun g hg=>Nat.lt_of_lt_of_le (hG g hg) (Ext.alloc wA (.cells (A j).2 (A j).1)).size
  match plan with
  | []=>
   have e:wA=w:=hw (by intro j hj;cases hj);subst e;have hr:Region.ready .any ops listed=[]:=by simpa [planM] using hp
   match fuel with
   | 0=>exact⟨hr,h⟩
   | f+1=>exact⟨fun _=>h,fun i hi=>(by rw[show Region.ready .any ops (listP D (pend []) listed)=[] from hr] at hi;cases hi)⟩
  | (i,k)::r=>
   unfold planM at hp;simp only[Bool.and_eq_true] at hp;obtain⟨⟨⟨h0,h3⟩,h4⟩,h5⟩:=id hp;have hi:i∉pend r:=by simpa using h3
   have hri:i∈Region.ready .any ops listed:=by simpa using h0
   -- a value that is taken first
   have pure:∀(wl:Bool) (f:Nat) (o:Oper) (v:Value),pend ((i,k)::r)=pend r→fuel=f+1→need D r≤f→Region.free .any ops listed i=true→apartAll ops i (pend r)=true→(wl=true∨∀j∈late,i∈cover ops 6 (predsD ops j)) →
    ops[i]?=some o→YieldsIf P ops (fun w'=>(wl=true∧S w w')∨R w w') o v a→WM P ops Q V R S A B r G (a.put o.dst v) w→wpM P ops Q R S late fuel (listP D (pend ((i,k)::r)) listed) (mputs V ops D (pend ((i,k)::r)) a) wA:=by
    intro wl f o v hpe hfu hfn h1 h2 hl ho hy h;subst hfu;rw[hpe] at hA hdc hD hI hw ⊢;have hsi:=Region.noSelect_spec hs i o;have e1:=listP_set D i (pend r) listed;have e2:mputs V ops D (pend r) (a.put o.dst v)=(mputs V ops D (pend r) a).put o.dst v:=mputs_put (pend r) a (by
     intro j hj d hd he;obtain⟨oj,hoj,ha⟩:=apartAll_of ho h2 hj;obtain⟨a1,a2,a3⟩:=Oper.apart_spec ha;unfold dstAt at hd;rw[hoj] at hd;exact a2 d hd he)
    have hrA:=ready_listP (D:=D) (pend r) listed hi hri
    refine wpM_first H (wl:=wl) ho (Region.noSelect_spec hs) (fun c a w=>(hQ c a _ _ w).1) hl f _ _ _ hdc (Region.free_spec ho (free_listP _ _ h1)) hrA
     (yields_mputs (V:=V) ho (fun cs b=>hsi cs b ho) (pend r) a h2 (YieldsIf.weaken hy (fun w'' h''=>h''.imp (fun h''=>⟨h''.1,H.late (H.weak (H.ext hE)) h''.2⟩) (fun h''=>H.trans (H.ext hE) h'')))) ?_
    rw[←e1,←e2];exact ih r f _ D G _ w wA (by simp at hn;omega) h4 hA hfn (by rw[e1];exact hdc.set_ hrA) hD hI hE hw hB hG h
   match k,hp,hA,hf,hdc,hD,hI,hw,h,h5,early,pure with
   | 0,hp,hA,hf,hdc,hD,hI,hw,h,h5,early,pure=>
    match fuel with
    | 0=>simp[need] at hf
    | f+1=>
     obtain⟨o,v,ho,hy,h⟩:=h;simp only[Bool.and_eq_true] at h5;refine pure false f o v rfl rfl (by simp[need] at hf;omega) h5.1.1 h5.1.2 (.inr fun j hj=>?_) ho (YieldsIf.weaken hy (fun w'' h''=>h''.resolve_left (by simp))) h;have:=List.all_eq_true.1 h5.2 j hj;simpa using this
   | 5,hp,hA,hf,hdc,hD,hI,hw,h,h5,early,pure=>
    match fuel with
    | 0=>simp[need] at hf
    | f+1=>
     obtain⟨o,v,ho,hy,h⟩:=h;simp only[Bool.and_eq_true] at h5;exact pure true f o v (by simp[pend]) rfl (by simp[need] at hf;omega) h5.1 h5.2 (.inl rfl) ho (YieldsIf.weaken hy (fun w'' h''=>h''.elim And.right (fun h''=>H.weak h''))) h
   | 6,hp,hA,hf,hdc,hD,hI,hw,h,h5,early,pure=>
    match fuel with
    | 0=>simp[need] at hf
    | f+1=>
     rcases r with _|⟨⟨m,km⟩,r'⟩
     ·simp at h5
     ·simp only[Bool.and_eq_true,beq_iff_eq] at h5;obtain⟨⟨⟨⟨⟨⟨⟨hkm,hrm⟩,hall⟩,hapi⟩,hapm⟩,c1⟩,c2⟩,c3⟩:=h5;subst hkm;have hrm':m∈Region.ready .any ops listed:=by simpa using hrm
      have hir:i∉pend r':=hi;have hmr:m∉pend r':=by
       have h4':=h4;unfold planM at h4';simp only[Bool.and_eq_true] at h4';simpa using h4'.1.1.2
      obtain⟨_,o,ho,_⟩:=mem_ready.1 hri;obtain⟨_,om,hom,_⟩:=mem_ready.1 hrm';have hrA:i∈Region.ready .any ops (listP D (pend r') listed):=ready_listP (pend r') listed hir hri;have hrM:m∈Region.ready .any ops (listP D (pend r') listed):=ready_listP (pend r') listed hmr hrm';have hdc':DC ops (listP D (pend r') listed):=hdc;refine⟨fun h0=>absurd hrA (by rw[show Region.ready .any ops (listP D (pend r') listed)=[] from h0];simp),fun j hj=>?_⟩;have hj':j∈Region.ready .any ops (listP D (pend r') listed):=hj
      by_cases hjp:j∈pend r'
      ·refine early f j rfl hjp ?_ hj;cases hDj:D j with
       | none=>rfl
       | some g=>
        have:=listP_on hDj (pend r') listed hjp;rw[not_ready hj'] at this;cases this
      ·have hja:=ready_listAll (pend r') listed hjp hj';have hij:j=i∨j=m:=by
        have:=List.all_eq_true.1 hall j hja;simpa using this
       rcases hij with e|e
       ·subst e;have hsi:=Region.noSelect_spec hs j o;have hw2:=wpOp_mputs (V:=V) ho (fun cs b=>hsi cs b ho) hQ (D:=D) (pend r') _ a hapi (h.1 wA hE);refine wpOp_mono ?_ hw2;rintro a' w' ⟨a0,rfl,hk,hh⟩;refine⟨.inr hk,?_⟩;have e1:=listP_set D j (pend r') listed;show wpM P ops Q R S late f ((listP D (pend r') listed).setIfInBounds j true) (mputs V ops D (pend r') a0) w';rw[←e1];refine ih ((m,2)::r') f _ D _ a0 w' w' (by simp at hn ⊢;omega) h4 hA (by simp[need] at hf ⊢;omega) (by show DC ops (listP D (pend r') _);rw[e1];exact hdc'.set_ hrA) ?_ hI (Ext.refl _) (fun _=>rfl) (Nat.le_trans hB (H.size hk)) (fun g hg=>hg.elim (fun hg=>Nat.lt_of_lt_of_le (hG g hg) (H.size hk)) And.right) hh;intro k hk' g hg;obtain⟨b1,b2,b3⟩:=hD k hk' g hg;exact⟨b1,fun h=>h.elim b2 fun h=>Nat.not_lt_of_le h.1 b3.lt,H.box hk b3 b1⟩
       ·subst e;have hsi:=Region.noSelect_spec hs j om;have hw2:=wpOp_mputs (V:=V) hom (fun cs b=>hsi cs b hom) hQ (D:=D) (pend r') _ a hapm (h.2 wA hE);refine wpOp_mono ?_ hw2;rintro a' w' ⟨a0,rfl,hk,hh⟩;refine⟨.inr hk,?_⟩;have e1:=listP_set D j (pend r') listed;show wpM P ops Q R S late f ((listP D (pend r') listed).setIfInBounds j true) (mputs V ops D (pend r') a0) w';rw[←e1];have hp2:planM ops late ((i,2)::r') (listed.setIfInBounds j true)=true:=by
         unfold planM;simp only[Bool.and_eq_true,beq_iff_eq];exact⟨⟨⟨c1,by simpa using hir⟩,c2⟩,c3,hapi⟩
        refine ih ((i,2)::r') f _ D _ a0 w' w' (by simp at hn ⊢;omega) hp2 hA (by simp[need] at hf ⊢;omega) (by show DC ops (listP D (pend r') _);rw[e1];exact hdc'.set_ hrM) ?_ hI (Ext.refl _) (fun _=>rfl) (Nat.le_trans hB (H.size hk)) (fun g hg=>hg.elim (fun hg=>Nat.lt_of_lt_of_le (hG g hg) (H.size hk)) And.right) hh;intro k hk' g hg;obtain⟨b1,b2,b3⟩:=hD k hk' g hg;exact⟨b1,fun h=>h.elim b2 fun h=>Nat.not_lt_of_le h.1 b3.lt,H.box hk b3 b1⟩
   | k+9,hp,hA,hf,hdc,hD,hI,hw,h,h5,early,pure=>exact h.elim
   | 8,hp,hA,hf,hdc,hD,hI,hw,h,h5,early,pure=>
    rcases r with _|⟨⟨c,kc⟩,_|⟨⟨m,km⟩,r'⟩⟩
    ·simp at h5
    ·simp at h5
    simp only[Bool.and_eq_true,beq_iff_eq] at h5;obtain⟨⟨⟨⟨⟨⟨⟨⟨⟨⟨⟨hkc,hkm⟩,hpe⟩,hrm⟩,hall⟩,hc1⟩,hm1⟩,hall1⟩,hmi⟩,hicm⟩,himc⟩,hp2⟩:=h5;subst hkc hkm;have hr:pend r'=[]:=by simpa using hpe
    have hpd:pend ((i,8)::(c,9)::(m,10)::r')=[]:=hr;have e:wA=w:=hw (by rw[hpd];intro j hj;cases hj);subst e;have hdc2:DC ops listed:=by rw[hpd] at hdc;exact hdc
    have hrm':m∈Region.ready .any ops listed:=by simpa using hrm
    have hc1':c∈Region.ready .any ops (listed.setIfInBounds i true):=by simpa using hc1
    have hm1':m∈Region.ready .any ops (listed.setIfInBounds i true):=by simpa using hm1
    have hnf:3+need D r'≤fuel:=by simp[need] at hf;omega
    have hnn:fuel+r'.length+3≤n+1:=by simp at hn;omega
    obtain⟨f,rfl⟩:∃f,fuel=f+3:=⟨fuel-3,by omega⟩;rw[hpd];obtain⟨L3,hL3⟩:∃L3,((listed.setIfInBounds i true).setIfInBounds c true).setIfInBounds m true=L3:=⟨_,rfl⟩;rw[hL3] at hp2
    -- the last of the three,alone
    have last:∀(x:Nat) (L2:Array Bool) (a2:Act) (w2:World),Region.ready .any ops L2=[x]→L2.setIfInBounds x true=L3→DC ops L2→B≤w2.heap.size→(∀g,G g→g<w2.heap.size) →
     wpOp P ops Q x (fun a3 w3=>R w2 w3∧WM P ops Q V R S A B r' G a3 w3) a2 w2→wpM P ops Q R S late (f+1) L2 a2 w2:=by
     intro x L2 a2 w2 hx he hd hB2 hG2 hh;have hxr:x∈Region.ready .any ops L2:=by rw[hx];simp
     refine⟨fun h0=>(by rw[hx] at h0;cases h0),fun j hj=>?_⟩;rw[hx] at hj;obtain rfl:j=x:=by simpa using hj
     refine wpOp_mono (fun a3 w3 hk=>⟨.inr hk.1,?_⟩) hh;have:=ih r' f L3 D G a3 w3 w3 (by omega) hp2 (by rw[hr];intro j hj;cases hj) (by omega) (by rw[hr];show DC ops L3;rw[←he];exact DC.set_ hd hxr) (by rw[hr];intro j hj;cases hj) (by rw[hr];intro j hj;cases hj) (Ext.refl _) (fun _=>rfl) (Nat.le_trans hB2 (H.size hk.1)) (fun g hg=>Nat.lt_of_lt_of_le (hG2 g hg) (H.size hk.1)) hk.2;rw[hr] at this;rw[he];exact this
    have c12:((listed.setIfInBounds i true).setIfInBounds m true).setIfInBounds c true=L3:=by rw[←hL3];exact set_comm _ _ _
    have e1:(listed.setIfInBounds m true).setIfInBounds i true=(listed.setIfInBounds i true).setIfInBounds m true:=set_comm _ _ _;have hdi:DC ops (listed.setIfInBounds i true):=DC.set_ hdc2 hri;refine⟨fun h0=>absurd hri (by rw[show Region.ready .any ops listed=[] from h0];simp),fun j hj=>?_⟩;have hj':j∈Region.ready .any ops listed:=hj;have hij:j=i∨j=m:=by
     have:=List.all_eq_true.1 hall j hj';simpa using this
    rcases hij with e|e
    ·subst e;refine wpOp_mono (fun a1 w1 hk=>⟨.inr hk.1,?_⟩) h.1;have hB1:=Nat.le_trans hB (H.size hk.1);have hG1:∀g,G g→g<w1.heap.size:=fun g hg=>Nat.lt_of_lt_of_le (hG g hg) (H.size hk.1);refine⟨fun h0=>absurd hc1' (by rw[show Region.ready .any ops (listed.setIfInBounds j true)=[] from h0];simp),fun q hq=>?_⟩;have hq':q∈Region.ready .any ops (listed.setIfInBounds j true):=hq;have hqq:q=c∨q=m:=by
      have:=List.all_eq_true.1 hall1 q hq';simpa using this
     rcases hqq with e|e
     ·subst e;exact wpOp_mono (fun a2 w2 hk2=>⟨.inr hk2.1,last m _ a2 w2 hicm hL3 (DC.set_ hdi hq') (Nat.le_trans hB1 (H.size hk2.1)) (fun g hg=>Nat.lt_of_lt_of_le (hG1 g hg) (H.size hk2.1)) hk2.2⟩) hk.2.1
     ·subst e;exact wpOp_mono (fun a2 w2 hk2=>⟨.inr hk2.1,last c _ a2 w2 himc c12 (DC.set_ hdi hq') (Nat.le_trans hB1 (H.size hk2.1)) (fun g hg=>Nat.lt_of_lt_of_le (hG1 g hg) (H.size hk2.1)) hk2.2⟩) hk.2.2
    ·subst e;refine wpOp_mono (fun a1 w1 hk=>⟨.inr hk.1,?_⟩) h.2;have hB1:=Nat.le_trans hB (H.size hk.1);have hG1:∀g,G g→g<w1.heap.size:=fun g hg=>Nat.lt_of_lt_of_le (hG g hg) (H.size hk.1);have hir:i∈Region.ready .any ops (listed.setIfInBounds j true):=by rw[hmi];simp
     refine⟨fun h0=>absurd hir (by rw[show Region.ready .any ops (listed.setIfInBounds j true)=[] from h0];simp),fun q hq=>?_⟩;have hq':q∈Region.ready .any ops (listed.setIfInBounds j true):=hq;have hqi:=hq';rw[hmi] at hqi;obtain rfl:q=i:=by simpa using hqi
     refine wpOp_mono (fun a2 w2 hk2=>⟨.inr hk2.1,last c ((listed.setIfInBounds j true).setIfInBounds q true) a2 w2 (by rw[e1];exact himc) (by rw[e1];exact c12) (DC.set_ (DC.set_ hdc2 hj') hq') (Nat.le_trans hB1 (H.size hk2.1)) (fun g hg=>Nat.lt_of_lt_of_le (hG1 g hg) (H.size hk2.1)) hk2.2⟩) hk.2
   | 7,hp,hA,hf,hdc,hD,hI,hw,h,h5,early,pure=>
    rcases r with _|⟨⟨m,km⟩,r'⟩
    ·simp at h5
    simp only[Bool.and_eq_true,beq_iff_eq] at h5;obtain⟨⟨⟨⟨⟨⟨⟨⟨hkm,hpe⟩,hrm⟩,hall⟩,hli⟩,hlm⟩,hri2⟩,hrm2⟩,hp2⟩:=h5;subst hkm;have hr:pend r'=[]:=by simpa using hpe
    have hpd:pend ((i,7)::(m,4)::r')=[]:=hr;have e:wA=w:=hw (by rw[hpd];intro j hj;cases hj);subst e;have hdc2:DC ops listed:=by rw[hpd] at hdc;exact hdc
    have hli':i∈late:=by simpa using hli
    have hlm':m∈late:=by simpa using hlm
    have hrm':m∈Region.ready .any ops listed:=by simpa using hrm
    have hnf:2+need D r'≤fuel:=by simp[need] at hf;omega
    have hnn:fuel+r'.length+2≤n+1:=by simp at hn;omega
    obtain⟨f,rfl⟩:∃f,fuel=f+2:=⟨fuel-2,by omega⟩;rw[hpd]
    have step:∀(x y:Nat),x∈Region.ready .any ops listed→x∈late→y∈late→Region.ready .any ops (listed.setIfInBounds x true)=[y]→(listed.setIfInBounds x true).setIfInBounds y true=(listed.setIfInBounds m true).setIfInBounds i true →
     wpOp P ops Q x (fun a' w'=>S wA w'∧wpOp P ops Q y (fun a'' w''=>S w' w''∧WM P ops Q V R S A B r' G a'' w'') a' w') a wA →
     wpOp P ops Q x (fun a' w'=>((x∈late∧S wA w')∨R wA w')∧wpM P ops Q R S late (f+1) (listed.setIfInBounds x true) a' w') a wA:=by
     intro x y hx hxl hyl hy he hh;refine wpOp_mono (fun a' w' hk=>⟨.inl ⟨hxl,hk.1⟩,?_⟩) hh;have hyr:y∈Region.ready .any ops (listed.setIfInBounds x true):=by rw[hy];simp
     refine⟨fun h0=>(by rw[hy] at h0;cases h0),fun j hj=>?_⟩;rw[hy] at hj;obtain rfl:j=y:=by simpa using hj
     refine wpOp_mono (fun a'' w'' hk2=>⟨.inl ⟨hyl,hk2.1⟩,?_⟩) hk.2;have:=ih r' f ((listed.setIfInBounds m true).setIfInBounds i true) D G a'' w'' w'' (by omega) hp2 (by rw[hr];intro j hj;cases hj) (by omega) (by rw[hr];show DC ops ((listed.setIfInBounds m true).setIfInBounds i true);rw[←he];exact DC.set_ (DC.set_ hdc2 hx) hyr) (by rw[hr];intro j hj;cases hj) (by rw[hr];intro j hj;cases hj) (Ext.refl _) (fun _=>rfl) (Nat.le_trans hB (Nat.le_trans (H.lsize hk.1) (H.lsize hk2.1))) (fun g hg=>Nat.lt_of_lt_of_le (hG g hg) (Nat.le_trans (H.lsize hk.1) (H.lsize hk2.1))) hk2.2;rw[hr] at this;rw[he];exact this
    refine⟨fun h0=>absurd hri (by rw[show Region.ready .any ops listed=[] from h0];simp),fun j hj=>?_⟩;have hj':j∈Region.ready .any ops listed:=hj;have hij:j=i∨j=m:=by
     have:=List.all_eq_true.1 hall j hj';simpa using this
    rcases hij with e|e
    ·subst e
     exact step j m hj' hli' hlm' hri2 (by by_cases hjm : j = m
                                           ·subst hjm;rfl
                                           ·exact Array.setIfInBounds_comm _ _ hjm) h.1
    ·subst e;exact step j i hj' hlm' hli' hrm2 rfl h.2
   | 1,hp,hA,hf,hdc,hD,hI,hw,h,h5,early,pure=>
    match fuel with
    | 0=>simp[need] at hf
    | f+1=>
     simp only[Bool.and_eq_true,beq_iff_eq] at h5;have hr:pend r=[]:=by simpa using h5.2
     have hpd:pend ((i,1)::r)=[]:=hr;have e:wA=w:=hw (by rw[hpd];intro j hj;cases hj);subst e;have hdc2:DC ops listed:=by rw[hpd] at hdc;exact hdc
     rw[hpd];refine⟨fun h0=>absurd hri (by rw[show Region.ready .any ops listed=[] from h0];simp),fun j hj=>?_⟩;have hj':j∈Region.ready .any ops listed:=hj;have hjr:=hj';rw[h5.1] at hj';obtain rfl:j=i:=by simpa using hj'
     refine wpOp_mono (fun a' w' hk=>⟨.inr hk.1,?_⟩) h;have:=ih r f (listed.setIfInBounds j true) D _ a' w' w' (by simp at hn;omega) h4 (by rw[hr];intro j hj;cases hj) (by simp[need] at hf;omega) (by rw[hr];exact DC.set_ hdc2 hjr) (by rw[hr];intro j hj;cases hj) (by rw[hr];intro j hj;cases hj) (Ext.refl _) (fun _=>rfl) (Nat.le_trans hB (H.size hk.1)) (fun g hg=>hg.elim (fun hg=>Nat.lt_of_lt_of_le (hG g hg) (H.size hk.1)) And.right) hk.2;rw[hr] at this;exact this
   | 4,hp,hA,hf,hdc,hD,hI,hw,h,h5,early,pure=>
    match fuel with
    | 0=>simp[need] at hf
    | f+1=>
     simp only[Bool.and_eq_true,beq_iff_eq] at h5;have hr:pend r=[]:=by simpa using h5.1.2
     have hil:i∈late:=by simpa using h5.2
     have hpd:pend ((i,4)::r)=[]:=hr;have e:wA=w:=hw (by rw[hpd];intro j hj;cases hj);subst e;have hdc2:DC ops listed:=by rw[hpd] at hdc;exact hdc
     rw[hpd];refine⟨fun h0=>absurd hri (by rw[show Region.ready .any ops listed=[] from h0];simp),fun j hj=>?_⟩;have hj':j∈Region.ready .any ops listed:=hj;have hjr:=hj';rw[h5.1.1] at hj';obtain rfl:j=i:=by simpa using hj'
     refine wpOp_mono (fun a' w' hk=>⟨.inl ⟨hil,hk.1⟩,?_⟩) h;have:=ih r f (listed.setIfInBounds j true) D G a' w' w' (by simp at hn;omega) h4 (by rw[hr];intro j hj;cases hj) (by simp[need] at hf;omega) (by rw[hr];exact DC.set_ hdc2 hjr) (by rw[hr];intro j hj;cases hj) (by rw[hr];intro j hj;cases hj) (Ext.refl _) (fun _=>rfl) (Nat.le_trans hB (H.lsize hk.1)) (fun g hg=>Nat.lt_of_lt_of_le (hG g hg) (H.lsize hk.1)) hk.2;rw[hr] at this;exact this
   | 2,hp,hA,hf,hdc,hD,hI,hw,h,h5,early,pure=>
    match fuel with
    | 0=>simp[need] at hf
    | f+1=>
     simp only[Bool.and_eq_true,beq_iff_eq] at h5;obtain⟨h1,h2⟩:=h5;obtain⟨_,o,ho,_⟩:=mem_ready.1 hri;have hrA:i∈Region.ready .any ops (listP D (pend r) listed):=ready_listP (pend r) listed hi hri;have hdc':DC ops (listP D (pend r) listed):=hdc;refine⟨fun h0=>absurd hrA (by rw[show Region.ready .any ops (listP D (pend r) listed)=[] from h0];simp),fun j hj=>?_⟩;have hj':j∈Region.ready .any ops (listP D (pend r) listed):=hj
     by_cases hjp:j∈pend r
     ·refine early f j rfl hjp ?_ hj;cases hDj:D j with
      | none=>rfl
      | some g=>
       have:=listP_on hDj (pend r) listed hjp;rw[not_ready hj'] at this;cases this
     ·have hja:=ready_listAll (pend r) listed hjp hj';rw[h1] at hja;obtain rfl:j=i:=by simpa using hja
      have hsi:=Region.noSelect_spec hs j o;have hw2:=wpOp_mputs (V:=V) ho (fun cs b=>hsi cs b ho) hQ (D:=D) (pend r) _ a h2 (h wA hE);refine wpOp_mono ?_ hw2;rintro a' w' ⟨a0,rfl,hk,hh⟩;refine⟨.inr hk,?_⟩;have e1:=listP_set D j (pend r) listed;show wpM P ops Q R S late f ((listP D (pend r) listed).setIfInBounds j true) (mputs V ops D (pend r) a0) w';rw[←e1];refine ih r f _ D _ a0 w' w' (by simp at hn;omega) h4 hA (by simp[need] at hf;omega) (by rw[e1];exact hdc'.set_ hrA) ?_ hI (Ext.refl _) (fun _=>rfl) (Nat.le_trans hB (H.size hk)) (fun g hg=>hg.elim (fun hg=>Nat.lt_of_lt_of_le (hG g hg) (H.size hk)) And.right) hh;intro k hk' g hg;obtain⟨b1,b2,b3⟩:=hD k hk' g hg;exact⟨b1,fun h=>h.elim b2 fun h=>Nat.not_lt_of_le h.1 b3.lt,H.box hk b3 b1⟩
   | 3,hp,hA,hf,hdc,hD,hI,hw,h,h5,early,pure=>
    simp only[Bool.and_eq_true,beq_iff_eq] at h5;obtain⟨h1,h2⟩:=h5;have hpd:pend ((i,3)::r)=i::pend r:=rfl;rw[hpd] at hA hdc hD hI hw early ⊢;cases hDi:D i with
    | some g=>
     obtain⟨b1,b2,b3⟩:=hD i List.mem_cons_self g hDi;have hh:=h g wA hE b3 b1 b2;have e1:listP D (i::pend r) listed=listP D (pend r) (listed.setIfInBounds i true):=by
      show listP D (pend r) (setD D i listed)=_;unfold setD;rw[hDi]
     have e2:mputs V ops D (i::pend r) a=mputs V ops D (pend r) (a.put (dstAt ops i) (V i g)):=by
      show mputs V ops D (pend r) (mputD V ops D i a)=_;unfold mputD;rw[hDi]
     rw[e1] at hdc;rw[e1,e2];refine ih r fuel _ D (fun k=>k=g∨G k) _ wA wA (by simp at hn;omega) h4 (fun j hj=>hA j (List.mem_cons_of_mem _ hj)) (by simp[need,hDi] at hf;omega) hdc ?_ (fun j hj k hk=>hI j (List.mem_cons_of_mem _ hj) k (List.mem_cons_of_mem _ hk)) (Ext.refl _) (fun _=>rfl) hB ?_ hh
     ·intro j hj g' hg';obtain⟨c1,c2,c3⟩:=hD j (List.mem_cons_of_mem _ hj) g' hg';refine⟨c1,?_,c3⟩;intro hx;rcases hx with rfl|hx
      ·exact hi (by rw[hI i List.mem_cons_self j (List.mem_cons_of_mem _ hj) g' hDi hg'];exact hj)
      ·exact c2 hx
     ·intro g' hx;rcases hx with rfl|hx
      ·exact b3.lt
      ·exact hG g' hx
    | none=>
     match fuel with
     | 0=>simp[need,hDi] at hf
     | f+1=>
      have e1:listP D (i::pend r) listed=listP D (pend r) listed:=by
       show listP D (pend r) (setD D i listed)=_;unfold setD;rw[hDi]
      have hrA:i∈Region.ready .any ops (listP D (pend r) listed):=ready_listP (pend r) listed hi hri;refine⟨fun h0=>absurd hrA (by rw[←e1,h0];simp),fun j hj=>?_⟩;have hj':j∈Region.ready .any ops (listP D (pend r) listed):=by rw[←e1];exact hj
      by_cases hji:j=i
      ·subst hji;exact early f j rfl List.mem_cons_self hDi hj
      by_cases hjp:j∈pend r
      ·refine early f j rfl (List.mem_cons_of_mem _ hjp) ?_ hj;cases hDj:D j with
       | none=>rfl
       | some g=>
        have:=listP_on hDj (pend r) listed hjp;rw[not_ready hj'] at this;cases this
      ·have hja:=ready_listAll (pend r) listed hjp hj';rw[h1] at hja;exact absurd (by simpa using hja) hji
theorem wp_region_M (R S:World→World→Prop){id:Nat}{a:Act}{w:World}(H:RelOk R S w.heap.size)(V:Nat→Nat→Value)(plan:List (Nat×Nat))(T:TypeId)(cs:Array Value)
 (h:∀wd,Ext w wd→WM P ops Q V R S (fun _=>(T,cs)) w.heap.size plan (fun _=>False) a wd)
 (hA:∀j∈pend plan,∃o,ops[j]?=some o∧NewOf P o (T,cs) (V j)) (hm:P.follows .mixedOrders=true:=by exact rfl)
 (hp:(Region.noSelect ops&&planM ops (latesM plan) plan (Array.replicate ops.size false)&&decide (need (fun _=>none) plan≤ops.size))=true:=by kernel_rfl)
 (hQ:∀c a d v w,Q (.panic c) (Act.put a d v) w↔Q (.panic c) a w:=by intro _ _ d _ _;cases d<;>exact Iff.rfl):(Code.region id ops true).wp P Q a w:=by
 simp only[Bool.and_eq_true,decide_eq_true_eq] at hp;have hl:∀(js:List Nat) (l:Array Bool),listP (fun _=>none) js l=l:=by
  intro js;induction js with
  | nil=>exact fun _=>rfl
  | cons j r ih=>intro l;exact ih l
 have hpt:∀(js:List Nat) (a:Act),mputs V ops (fun _=>none) js a=a:=by
  intro js;induction js with
  | nil=>exact fun _=>rfl
  | cons j r ih=>intro l;exact ih l
 have hdc:DC ops (Array.replicate ops.size false):=by
  intro k hk;exfalso;rcases Nat.lt_or_ge k ops.size with h'|h'
  ·simp[h'] at hk
  ·rw[Array.getD_eq_getD_getElem?,Array.getElem?_eq_none (by simpa using h')] at hk;cases hk
 have:=WM.sound (V:=V) H (late:=latesM plan) (A:=fun _=>(T,cs)) hp.1.1 hQ _ plan ops.size (Array.replicate ops.size false) (fun _=>none) (fun _=>False) a { w with drawn:=w.drawn+1 } { w with drawn:=w.drawn+1 } (Nat.le_refl _) hp.1.2 hA hp.2 (by rw[hl];exact hdc) (by intro _ _ _ h;cases h) (by intro _ _ _ _ _ h;cases h) (Ext.refl _) (fun _=>rfl) (Nat.le_refl _) (by intro _ h;cases h) (h _ (Below.drew (Below.refl _ _)));rw[hl,hpt] at this;exact wp_region_any hm (wpAny_of_M _ _ _ _ this)
variable {V:Nat→Nat→Value} {R S:World→World→Prop} {A:Nat→TypeId×Array Value} {B:Nat} {G:Nat→Prop} {i:Nat} {r:List (Nat×Nat)} {a:Act} {w:World} {o:Oper} {d:Option Tmp}
theorem WM.done (h:Q .normal a w): WM P ops Q V R S A B [] G a w:=h
theorem WM.pure {v:Value}(ho:ops[i]?=some o)(hd:o.dst=d)(hw:Region.wanted o (yielded ops a.tmps)=true)
 (hy:∀w',R w w'→(execOp a.eval o).run P w'=.ok (.value v) w') (h:WM P ops Q V R S A B r G (a.put d v) w):WM P ops Q V R S A B ((i,0)::r) G a w:=
 ⟨o,v,ho,.inl ⟨hw,hy⟩,hd▸h⟩
theorem WM.any {v:Value}(ho:ops[i]?=some o)(hd:o.dst=d)(hw:Region.wanted o (yielded ops a.tmps)=true)
 (hy:∀w',S w w'→(execOp a.eval o).run P w'=.ok (.value v) w') (h:WM P ops Q V R S A B r G (a.put d v) w):WM P ops Q V R S A B ((i,5)::r) G a w:=
 ⟨o,v,ho,.inl ⟨hw,hy⟩,hd▸h⟩
theorem WM.call {f:FuncId}{args:Array Value}(ho:ops[i]?=some o)(hd:o.dst=d)(hw:Region.wanted o (yielded ops a.tmps)=true)
 (he:(execOp a.eval o).run P w=.ok (.enter f args) w)
 (hc:Calls P f args w fun e w'=>∃v,e=.returned v∧R w w'∧WM P ops Q V R S A B r (grow G w w') (a.put d v) w'):WM P ops Q V R S A B ((i,1)::r) G a w:=by
 subst hd;unfold WM wpOp;simp only[ho,hw,if_true];refine .inl ?_;unfold Oper.wp;rw[he];unfold Oper.upon;refine hc.mono ?_;rintro e w' ⟨v,rfl,hk,h⟩;exact⟨hk,h⟩
theorem WM.callR {f:FuncId}{args:Array Value}(ho:ops[i]?=some o)(hd:o.dst=d)(hw:Region.wanted o (yielded ops a.tmps)=true)
 (he:∀w,(execOp a.eval o).run P w=.ok (.enter f args) w)
 (hc:∀w1,Ext w w1→Calls P f args w1 fun e w'=>∃v,e=.returned v∧R w1 w'∧WM P ops Q V R S A B r (grow G w1 w') (a.put d v) w'):WM P ops Q V R S A B ((i,2)::r) G a w:=by
 subst hd;unfold WM;intro w1 hE;unfold wpOp;simp only[ho,hw,if_true];refine .inl ?_;unfold Oper.wp;rw[he];unfold Oper.upon;refine(hc w1 hE).mono ?_;rintro e w' ⟨v,rfl,hk,h⟩;exact⟨hk,h⟩
theorem WM.var (hd:dstAt ops i=d)(h:∀g w1,Ext w w1→Box w1 g (A i).2 (A i).1→B≤g→¬G g→WM P ops Q V R S A B r (fun k=>k=g∨G k) (a.put d (V i g)) w1): WM P ops Q V R S A B ((i,3)::r) G a w:=by
 subst hd;exact h
theorem WM.store {w':World}(ho:ops[i]?=some o)(hd:o.dst=none)(hw:Region.wanted o (yielded ops a.tmps)=true)
 (he:(execOp a.eval o).run P w=.ok .skip w') (hk:S w w') (h:WM P ops Q V R S A B r G a w'):WM P ops Q V R S A B ((i,4)::r) G a w:=by
 unfold WM wpOp;simp only[ho,hw,if_true];refine .inl ?_;unfold Oper.wp;rw[he];rw[Oper.upon_skip,hd];exact⟨hk,h⟩
theorem WM.act {v:Value}{w':World}(ho:ops[i]?=some o)(hd:o.dst=d)(hw:Region.wanted o (yielded ops a.tmps)=true)
 (he:(execOp a.eval o).run P w=.ok (.value v) w') (hk:R w w') (h:WM P ops Q V R S A B r (grow G w w') (a.put d v) w'):WM P ops Q V R S A B ((i,1)::r) G a w:=by
 subst hd;unfold WM wpOp;simp only[ho,hw,if_true];refine .inl ?_;unfold Oper.wp;rw[he];exact⟨hk,h⟩
theorem WM.late {v:Value}{w':World}(ho:ops[i]?=some o)(hd:o.dst=d)(hw:Region.wanted o (yielded ops a.tmps)=true)
 (he:(execOp a.eval o).run P w=.ok (.value v) w') (hk:S w w') (h:WM P ops Q V R S A B r G (a.put d v) w'):WM P ops Q V R S A B ((i,4)::r) G a w:=by
 subst hd;unfold WM wpOp;simp only[ho,hw,if_true];refine .inl ?_;unfold Oper.wp;rw[he];exact⟨hk,h⟩
theorem wpOp_skip {i:Nat}{o:Oper}{a:Act}{w w':World}{K:Act→World→Prop}(ho:ops[i]?=some o)(hd:o.dst=none)(hw:Region.wanted o (yielded ops a.tmps)=true)(he:(execOp a.eval o).run P w=.ok .skip w')(h:K a w'): wpOp P ops Q i K a w:=by
 unfold wpOp;simp only[ho,hw,if_true];refine .inl ?_;unfold Oper.wp;rw[he];rw[Oper.upon_skip,hd];exact h
theorem WM.stores2 {m:Nat}{o':Oper}{w1 w2 w1' w2':World}(ho:ops[i]?=some o)(hd:o.dst=none)(hw:Region.wanted o (yielded ops a.tmps)=true)(ho':ops[m]?=some o')(hd':o'.dst=none)(hw':Region.wanted o' (yielded ops a.tmps)=true)
 (e1:(execOp a.eval o).run P w=.ok .skip w1) (e2:(execOp a.eval o').run P w1=.ok .skip w2) (f1:(execOp a.eval o').run P w=.ok .skip w1') (f2:(execOp a.eval o).run P w1'=.ok .skip w2')
 (s1:S w w1) (s2:S w1 w2) (t1:S w w1') (t2:S w1' w2') (h:WM P ops Q V R S A B r G a w2) (h':WM P ops Q V R S A B r G a w2'):WM P ops Q V R S A B ((i,7)::(m,4)::r) G a w:=
 ⟨wpOp_skip ho hd hw e1 ⟨s1,wpOp_skip ho' hd' hw' e2 ⟨s2,h⟩⟩,wpOp_skip ho' hd' hw' f1 ⟨t1,wpOp_skip ho hd hw f2 ⟨t2,h'⟩⟩⟩
theorem wpOp_val {i:Nat}{o:Oper}{d:Tmp}{a:Act}{w w':World}{v:Value}{K:Act→World→Prop}(ho:ops[i]?=some o)(hd:o.dst=some d)(hg:o.guard=none)(he:(execOp a.eval o).run P w=.ok (.value v) w')(h:K (a.put (some d) v) w'): wpOp P ops Q i K a w:=by
 have hw:Region.wanted o (yielded ops a.tmps)=true:=by unfold Region.wanted;rw[hg]
 unfold wpOp;simp only[ho,hw,if_true];refine .inl ?_;unfold Oper.wp;rw[he,Oper.upon_value,hd];exact h
theorem wpOp_enter {i:Nat}{o:Oper}{d:Tmp}{a:Act}{w:World}{f:FuncId}{args:Array Value}{K:Act→World→Prop}(ho:ops[i]?=some o)(hd:o.dst=some d)(hg:o.guard=none)(he:(execOp a.eval o).run P w=.ok (.enter f args) w)
 (hc:Calls P f args w fun e w'=>∃v,e=.returned v∧K (a.put (some d) v) w'):wpOp P ops Q i K a w:=by
 have hw:Region.wanted o (yielded ops a.tmps)=true:=by unfold Region.wanted;rw[hg]
 unfold wpOp;simp only[ho,hw,if_true];refine .inl ?_;unfold Oper.wp;rw[he];unfold Oper.upon;refine hc.mono ?_;rintro e w' ⟨v,rfl,h⟩;rw[hd];exact h
theorem WM.three {c m:Nat}{oi oc om:Oper}{di dc dm:Tmp}{ci cm:Array Value}{Ti Tm:TypeId}{vi vm:Nat→Value}{f:FuncId}{args:Nat→Array Value}{F:Value→Nat→World→Prop}(H:RelOk R S B)(hB:B≤w.heap.size)
 (hoi:ops[i]?=some oi) (hoc:ops[c]?=some oc) (hom:ops[m]?=some om) (hdi:oi.dst=some di) (hdc:oc.dst=some dc) (hdm:om.dst=some dm) (hgi:oi.guard=none) (hgc:oc.guard=none) (hgm:om.guard=none) (hne:di≠dm∧dc≠dm)
 (hi0:∀w,(execOp a.eval oi).run P w=.ok (.value (vi w.heap.size)) (w.alloc (.cells ci Ti))) (hi1:∀v w,(execOp (a.put (some dm) v).eval oi).run P w=.ok (.value (vi w.heap.size)) (w.alloc (.cells ci Ti)))
 (hm0:∀w,(execOp a.eval om).run P w=.ok (.value (vm w.heap.size)) (w.alloc (.cells cm Tm))) (hm1:∀v w,(execOp (a.put (some di) v).eval om).run P w=.ok (.value (vm w.heap.size)) (w.alloc (.cells cm Tm)))
 (hm2:∀v u w,(execOp ((a.put (some di) v).put (some dc) u).eval om).run P w=.ok (.value (vm w.heap.size)) (w.alloc (.cells cm Tm)))
 (hc1:∀g w,(execOp (a.put (some di) (vi g)).eval oc).run P w=.ok (.enter f (args g)) w) (hc2:∀g v w,(execOp ((a.put (some di) (vi g)).put (some dm) v).eval oc).run P w=.ok (.enter f (args g)) w)
 (hcall:∀w1 gi,Ext w w1→Box w1 gi ci Ti→w.heap.size≤gi→Calls P f (args gi) w1 fun e w'=>∃u,e=.returned u∧R w1 w'∧F u gi w')
 (hF:∀u gi w1 w2,Ext w1 w2→F u gi w1→F u gi w2)
 (ht:∀u gi gm w4,F u gi w4→Box w4 gm cm Tm→w.heap.size≤gm→WM P ops Q V R S A B r G (((a.put (some di) (vi gi)).put (some dc) u).put (some dm) (vm gm)) w4):WM P ops Q V R S A B ((i,8)::(c,9)::(m,10)::r) G a w:=by
 have p1:∀v u,(a.put (some dm) v).put (some di) u=(a.put (some di) u).put (some dm) v:=fun v u=>Act.put_comm _ _ _ (by intro d h1 h2;cases h1;cases h2;first|exact hne.1 rfl);have p2:∀(x v u:Value),((a.put (some di) x).put (some dm) v).put (some dc) u=((a.put (some di) x).put (some dc) u).put (some dm) v:=fun x v u=>Act.put_comm _ _ _ (by intro d h1 h2;cases h1;cases h2;first|exact hne.2 rfl);refine⟨wpOp_val hoi hdi hgi (hi0 w) ⟨H.ext (Ext.alloc _ _),?_,?_⟩,?_⟩
 ·refine wpOp_enter hoc hdc hgc (hc1 _ _) ((hcall _ _ (Ext.alloc _ _) (Box.new _ _ _) (Nat.le_refl _)).mono ?_);rintro e w' ⟨u,rfl,hr,hf⟩;refine⟨u,rfl,hr,wpOp_val hom hdm hgm (hm2 _ _ _) ⟨H.ext (Ext.alloc _ _),ht _ _ _ _ (hF _ _ _ _ (Ext.alloc _ _) hf) (Box.new _ _ _) ?_⟩⟩;have h1:=H.size hr;have h2:=(Ext.alloc w (.cells ci Ti)).size;omega
 ·refine wpOp_val hom hdm hgm (hm1 _ _) ⟨H.ext (Ext.alloc _ _),wpOp_enter hoc hdc hgc (hc2 _ _ _) ((hcall _ _ ((Ext.alloc _ _).trans (Ext.alloc _ _)) ((Box.new w ci Ti).alloc _) (Nat.le_refl _)).mono ?_)⟩;rintro e w' ⟨u,rfl,hr,hf⟩;refine⟨u,rfl,hr,?_⟩;rw[p2];have h2:=(Ext.alloc w (.cells ci Ti)).size;exact ht _ _ _ _ hf (H.box hr (Box.new _ _ _) (Nat.le_trans hB h2)) h2
 ·refine wpOp_val hom hdm hgm (hm0 _) ⟨H.ext (Ext.alloc _ _),wpOp_val hoi hdi hgi (hi1 _ _) ⟨H.ext (Ext.alloc _ _),?_⟩⟩;rw[p1];have h2:=(Ext.alloc w (.cells cm Tm)).size;refine wpOp_enter hoc hdc hgc (hc2 _ _ _) ((hcall _ _ ((Ext.alloc _ _).trans (Ext.alloc _ _)) (Box.new _ _ _) h2).mono ?_);rintro e w' ⟨u,rfl,hr,hf⟩;refine⟨u,rfl,hr,?_⟩;rw[p2];exact ht _ _ _ _ hf (H.box hr ((Box.new w cm Tm).alloc _) hB) (Nat.le_refl _)
/- The steps' short words. -/
theorem WM.p (n:Nat)(v:Value)(h:WM P ops Q V R S A B r G (a.put (some n) v) w)(ho:ops[i]?=some o:=by exact rfl)(hd:o.dst=some n:=by exact rfl)(hw:Region.wanted o (yielded ops a.tmps)=true:=by rfl)
 (hy:∀w',R w w'→(execOp a.eval o).run P w'=.ok (.value v) w':=by intro w' hk;go_simp):WM P ops Q V R S A B ((i,0)::r) G a w:=WM.pure ho hd hw hy h
theorem WM.q (n:Nat)(v:Value){o:Oper}(ho:ops[i]?=some o)(hy:∀w',R w w'→(execOp a.eval o).run P w'=.ok (.value v) w')(h:WM P ops Q V R S A B r G (a.put (some n) v) w)(hd:o.dst=some n:=by exact rfl)(hw:Region.wanted o (yielded ops a.tmps)=true:=by rfl):
 WM P ops Q V R S A B ((i,0)::r) G a w:=WM.pure ho hd hw hy h
theorem WM.y (n:Nat)(v:Value)(h:WM P ops Q V R S A B r G (a.put (some n) v) w)(ho:ops[i]?=some o:=by exact rfl)(hd:o.dst=some n:=by exact rfl)(hw:Region.wanted o (yielded ops a.tmps)=true:=by rfl)
 (hy:∀w',S w w'→(execOp a.eval o).run P w'=.ok (.value v) w':=by intro w' hk;go_simp):WM P ops Q V R S A B ((i,5)::r) G a w:=WM.any ho hd hw hy h
theorem WM.c (n:Nat){f:FuncId}{args:Array Value}(hc:Calls P f args w fun e w'=>∃v,e=.returned v∧R w w'∧WM P ops Q V R S A B r (grow G w w') (a.put (some n) v) w')(ho:ops[i]?=some o:=by exact rfl)(hd:o.dst=some n:=by exact rfl)
 (hw:Region.wanted o (yielded ops a.tmps)=true:=by rfl) (he:(execOp a.eval o).run P w=.ok (.enter f args) w:=by go_simp):WM P ops Q V R S A B ((i,1)::r) G a w:=WM.call ho hd hw he hc
end
end Go.Proofs.YtoenjbkmiphhoaaGreatDoor.Q
