/-
  A region that draws its order, walked along one plan: loads and arithmetic as soon as they may come up, all that acts in the one order that is left. 'Kept X w w'': nothing that was there has turned, but for the blocks X.
-/
import Derived.Test.YtoenjbkmiphhoaaGreatDoorA02
import Derived.OrdersHeld
namespace Go.Proofs.YtoenjbkmiphhoaaGreatDoor
set_option linter.unusedSimpArgs false
set_option linter.unusedVariables false
open Go.RowKit
/- the three rules that a step's slot is laid by -/
theorem pA {α:Type}(l:List α)(i:Nat)(a:α): l.toArray.setIfInBounds i a=(l.set i a).toArray:=List.setIfInBounds_toArray ..
theorem pB {α:Type}(a b:α)(l:List α): (a::l).set 0 b=b::l:=rfl
theorem pC {α:Type}(a b:α)(l:List α)(n:Nat): (a::l).set (n+1) b=a::l.set n b:=rfl
theorem pX:(∀(a:Act) (d:Tmp) (v:Value),a.put (some d) v={ a with tmps:=a.tmps.setIfInBounds d v })∧(∀(a:Act) (v:Value),a.put none v=a)∧(∀(l:List Value) (i:Nat) (a:Value),l.toArray.setIfInBounds i a=(l.set i a).toArray)∧(∀(a b:Value) (l:List Value),(a::l).set 0 b=b::l)∧∀(a b:Value) (l:List Value) (n:Nat),(a::l).set (n+1) b=a::l.set n b:=⟨fun _ _ _=>rfl,fun _ _=>rfl,fun l i a=>pA l i a,fun _ _ _=>rfl,fun _ _ _ _=>rfl⟩
def Kept (X:List Nat)(w w':World): Prop:=Below 0 w w'∧∀k,k<w.heap.size→k∉X→w'.heap[k]?=w.heap[k]?
theorem Kept.refl (X:List Nat)(w:World): Kept X w w:=⟨Below.refl _ _,fun _ _ _=>rfl⟩
theorem Kept.trans {X:List Nat}{a b c:World}(h:Kept X a b)(k:Kept X b c): Kept X a c:=
 ⟨h.1.trans k.1,fun i hi hx=>(k.2 i (Nat.lt_of_lt_of_le hi h.1.size) hx).trans (h.2 i hi hx)⟩
theorem Ext.kept {w w':World}(h:Ext w w')(X:List Nat): Kept X w w':=⟨Below.mono h (Nat.zero_le _),fun k hk _=>h.block k hk⟩
theorem Kept.ext {w w':World}(h:Kept [] w w'): Ext w w':=⟨h.1.os,h.1.tape,h.1.output,h.1.size,fun k hk=>h.2 k hk (by simp)⟩
theorem Kept.below {X:List Nat}{w w':World}(h:Kept X w w'){B:Nat}(hB:B≤w.heap.size)(hX:∀x∈X,B≤x): Below B w w':=
 ⟨h.1.os,h.1.tape,h.1.output,h.1.size,fun k hk=>h.2 k (by omega) (fun hx=>by have:=hX k hx;omega)⟩
theorem Kept.cell {X:List Nat}{w w':World}(h:Kept X w w'){g o:Nat}{v:Value}(hg:g∉X)(hc:w.cell? ⟨g,o,none⟩=some v): w'.cell? ⟨g,o,none⟩=some v:=by
 have hl:=World.block_lt_of_cell? w _ hc;rw[←hc];exact World.cell?_of_block (h.2 g hl hg)
theorem Ext.cell {w w':World}(h:Ext w w'){p:Addr}{v:Value}(hc:w.cell? p=some v): w'.cell? p=some v:=by
 have hl:=World.block_lt_of_cell? w _ hc;rw[←hc];exact World.cell?_of_block (h.block _ hl)
theorem Ext.alloc' {w w':World}(h:Ext w w')(o:Obj): Ext w (w'.alloc o):=h.trans (Ext.alloc _ _)
theorem Ext.set' {w w':World}(h:Ext w w'){p:Addr}(hp:w.heap.size≤p.block)(u:Value): Ext w (w'.setCell p u):=Below.setCell h hp u
theorem Ext.drew' {w w':World}(h:Ext w w'): Ext w w'.drew:=Below.drew h
def Box (w:World)(g:Nat)(cs:Array Value)(t:TypeId): Prop:=w.heap[g]?=some (.cells cs t (0,0))
theorem Box.lt {w:World}{g:Nat}{cs:Array Value}{t:TypeId}(h:Box w g cs t): g<w.heap.size:=(Array.getElem?_eq_some_iff.1 h).1
theorem Box.kept {X:List Nat}{w w':World}{g:Nat}{cs:Array Value}{t:TypeId}(h:Box w g cs t)(k:Kept X w w')(hg:g∉X): Box w' g cs t:=(k.2 g h.lt hg).trans h
theorem Box.up {w w':World}{g:Nat}{cs:Array Value}{t:TypeId}(h:Box w g cs t)(k:Ext w w'): Box w' g cs t:=(k.block g h.lt).trans h
theorem Box.cell {w:World}{g:Nat}{cs:Array Value}{t:TypeId}(h:Box w g cs t){o:Nat}{v:Value}(hv:cs[o]?=some v): w.cell? ⟨g,o,none⟩=some v:=by
 rw[cell_of_row w g o cs t (0,0) h];exact hv
theorem Box.free {w:World}{g:Nat}{cs:Array Value}{t:TypeId}(h:Box w g cs t)(o:Nat): w.frozen? ⟨g,o,none⟩=false:=by
 unfold Box at h;simp[World.frozen?,h]
theorem Box.new (w:World)(cs:Array Value)(t:TypeId): Box (w.alloc (.cells cs t)) w.heap.size cs t:=heap_alloc_new w _
theorem Box.at_ {w:World}{g:Nat}(cs:Array Value)(t:TypeId)(hg:g=w.heap.size): Box (w.alloc (.cells cs t)) g cs t:=hg▸Box.new w cs t
theorem Box.far {w:World}{g:Nat}{cs:Array Value}{t:TypeId}(h:Box w g cs t){p:Addr}(hp:g≠p.block)(u:Value): Box (w.setCell p u) g cs t:=(Below.heap_setCell w p u g hp).trans h
theorem Box.alloc {w:World}{g:Nat}{cs:Array Value}{t:TypeId}(h:Box w g cs t)(o:Obj): Box (w.alloc o) g cs t:=(Below.heap_alloc w o g h.lt).trans h
theorem Box.drew {w:World}{g:Nat}{cs:Array Value}{t:TypeId}(h:Box w g cs t): Box w.drew g cs t:=h
theorem Box.setAt {w:World}{g:Nat}{cs:Array Value}{t:TypeId}(h:Box w g cs t)(o:Nat)(u:Value): Box (w.setCell ⟨g,o,none⟩ u) g (cs.setIfInBounds o u) t:=by
 unfold Box at *;simp[World.setCell,Array.getElem?_modify,h]
theorem Box.set2 {w:World}{g:Nat}{x y:Value}{t:TypeId}(h:Box w g #[x,y] t)(u v:Value): Box ((w.setCell ⟨g,0,none⟩ u).setCell ⟨g,1,none⟩ v) g #[u,v] t:=by
 unfold Box at *;simp[World.setCell,Array.getElem?_modify,h]
theorem Box.k {w:World}{g:Nat}{cs:Array Value}{t:TypeId}(h:Box w g cs t)(o:Nat){v:Value}(hv:cs[o]?=some v:=by exact rfl): w.cell? ⟨g,o,none⟩=some v:=h.cell hv
theorem open1 (w:World)(a:Array Value)(a':TypeId): Hid (Ext w (w.alloc (.cells a a')))∧Hid (Box (w.alloc (.cells a a')) w.heap.size a a'):=
 ⟨hid ((Ext.refl w).alloc' _),hid (Box.at_ (w:=w) a a' (by simp))⟩
theorem open2 (w:World)(a:Array Value)(a':TypeId)(b:Array Value)(b':TypeId): Hid (Ext w ((w.alloc (.cells a a')).alloc (.cells b b')))∧Hid (Box ((w.alloc (.cells a a')).alloc (.cells b b')) w.heap.size a a')∧Hid (Box ((w.alloc (.cells a a')).alloc (.cells b b')) (w.heap.size+1) b b'):=
 ⟨hid (((Ext.refl w).alloc' _).alloc' _),hid ((Box.at_ (w:=w) a a' (by simp)).alloc _),hid (Box.at_ (w:=(w.alloc (.cells a a'))) b b' (by simp))⟩
def Keeps (w w':World): Prop:=∀v l,Num w w.heap.size v l→Num w' w'.heap.size v l
theorem Ext.keeps {w w':World}(h:Ext w w'): Keeps w w':=fun _ _ hn=>hn.up h
theorem Num.kz {w w':World}{v:Value}{l:List Nat}(h:Num w w.heap.size v l)(e:Keeps w w'): Num w' w'.heap.size v l:=e _ _ h
theorem Keeps.trans {a b c:World}(h:Keeps a b)(k:Keeps b c): Keeps a c:=fun v l hn=>k v l (h v l hn)
theorem IsN.kz {w w':World}{v:Value}{N k:Nat}(h:IsN w v N k)(e:Keeps w w'): IsN w' v N k:=⟨e _ _ h.1,h.2⟩
def noLimb (cs:Array Value): Bool:=cs.toList.all fun v=>match v with | .int .u32 _=>false|_=>true
theorem keeps_store {w w':World}{g:Nat}{cs:Array Value}{t:TypeId}(hb:Box w g cs t)(hno:noLimb cs=true)(hk:Kept [g] w w'): Keeps w w':=by
 rintro v l ⟨A,n,c,rfl,hn,hc,hm,hs,hr⟩;refine⟨A,n,c,rfl,hn,hc,hm,hs,fun hne=>?_⟩;obtain⟨ad,e,hlt,hcell⟩:=hr hne;refine⟨ad,e,Nat.lt_of_lt_of_le hlt hk.1.size,fun i x hx=>?_⟩;have h1:=hcell i x hx;have hadb:(ad.add i).block=ad.block:=addr_block ad i;have hne:ad.block≠g:=by
  intro he;have h2:w.heap[(ad.add i).block]?=some (.cells cs t (0,0)):=by rw[hadb,he];exact hb
  unfold World.cell? at h1;rw[h2] at h1;simp only at h1;have h3:(Value.int .u32 (x:Int))∈cs:=by
   first
   | exact Array.mem_of_getElem? h1
   | (split at h1<;>first|exact Array.mem_of_getElem? h1|(cases h1;done))
  have h4:=List.all_eq_true.1 hno _ (Array.mem_toList_iff.2 h3);simp at h4
 rw[←h1];exact World.cell?_of_block (by rw[hadb];exact hk.2 ad.block hlt (by simpa using hne))
theorem Ext.keptG {w0 w w':World}{g:Nat}(h:Ext w0 w)(hk:Kept [g] w w')(hg:w0.heap.size≤g): Ext w0 w':=
 Below.trans (B:=w0.heap.size) h (hk.below h.size (by simpa using hg))
theorem kept_set {w:World}{g:Nat}(u v:Value): Kept [g] w ((w.setCell ⟨g,0,none⟩ u).setCell ⟨g,1,none⟩ v):=
 ⟨((Below.refl 0 w).setCell (Nat.zero_le _) _).setCell (Nat.zero_le _) _,fun k _ hx=>by
  have hx':k≠g:=by simpa using hx
  exact(Below.heap_setCell _ _ _ _ hx').trans (Below.heap_setCell _ _ _ _ hx')⟩
theorem kept_setAt {w:World}{g o:Nat}(u:Value): Kept [g] w (w.setCell ⟨g,o,none⟩ u):=
 ⟨(Below.refl 0 w).setCell (Nat.zero_le _) _,fun k _ hx=>Below.heap_setCell _ _ _ _ (by simpa using hx)⟩
section
variable {P:Program} {ops:Array Oper} {Q:Exit→Act→World→Prop}
def wpR (P:Program)(ops:Array Oper)(Q:Exit→Act→World→Prop)(late:List Nat): Nat→Array Bool→Act→World→Prop
 | 0,listed,a,w=>Region.ready .any ops listed=[]∧Q .normal a w
 | fuel+1,listed,a,w=>
  (Region.ready .any ops listed=[]→Q .normal a w) ∧
  ∀i∈Region.ready .any ops listed,wpOp P ops Q i (fun a' w'=>(i∈late∨Ext w w')∧wpR P ops Q late fuel (listed.setIfInBounds i true) a' w') a w
theorem wpAny_of_R {late:List Nat}: ∀(fuel:Nat) (listed:Array Bool) (a:Act) (w:World),wpR P ops Q late fuel listed a w→wpAny P .any ops Q fuel listed a w
 | 0,_,_,_,h=>h
 | fuel+1,_,_,_,h=>⟨h.1,fun i hi=>wpOp_mono (fun a' w' h'=>wpAny_of_R fuel _ a' w' h'.2) (h.2 i hi)⟩
def predsD (ops:Array Oper)(k:Nat): List Nat:=match ops[k]? with|some o=>(o.after.toList.filter (Region.binds .any)).map (·.on)|none=>[]
def cover (ops:Array Oper): Nat→List Nat→List Nat
 | 0,S=>S
 | f+1,S=>cover ops f (S++((S.flatMap (predsD ops)).filter fun k=>!S.contains k).eraseDups)
def DC (ops:Array Oper)(l:Array Bool): Prop:=∀k,l.getD k false=true→∀e∈predsD ops k,l.getD e false=true
theorem preds_ready {l:Array Bool}{j:Nat}(h:j∈Region.ready .any ops l): ∀e∈predsD ops j,l.getD e false=true:=by
 obtain⟨_,o,ho,hall⟩:=mem_ready.1 h;intro e he;unfold predsD at he;rw[ho] at he;obtain⟨d,hd,rfl⟩:=List.mem_map.1 he;obtain⟨hd1,hd2⟩:=List.mem_filter.1 hd;exact hall d (Array.mem_toList_iff.1 hd1) hd2
theorem DC.set_ {l:Array Bool}{j:Nat}(h:DC ops l)(hj:j∈Region.ready .any ops l): DC ops (l.setIfInBounds j true):=by
 intro k hk e he
 by_cases hkj:j=k
 ·subst hkj;exact getD_set_true (preds_ready hj e he)
 ·rw[getD_set_ne false hkj] at hk;exact getD_set_true (h k hk e he)
theorem DC.cover {l:Array Bool}(h:DC ops l): ∀(f:Nat) (S:List Nat),(∀k∈S,l.getD k false=true)→∀k∈cover ops f S,l.getD k false=true
 | 0,_,hS=>hS
 | f+1,S,hS=>DC.cover h f _ (by
  intro k hk;rcases List.mem_append.1 hk with hk|hk
  ·exact hS k hk
  ·obtain⟨hk1,_⟩:=List.mem_filter.1 (List.mem_eraseDups.1 hk);obtain⟨k',hk',he⟩:=List.mem_flatMap.1 hk1;exact h k' (hS k' hk') k he)
theorem on_of_late {l:Array Bool}{i j:Nat}(h:DC ops l)(hj:j∈Region.ready .any ops l)(hi:i∈cover ops 6 (predsD ops j)): ¬l.getD i true=false:=by
 have:=h.cover 6 _ (preds_ready hj) i hi;intro h0;rcases Nat.lt_or_ge i l.size with h'|h'
 ·simp[h'] at this h0;rw[this] at h0;cases h0
 ·rw[Array.getD_eq_getD_getElem?,Array.getElem?_eq_none h'] at this;cases this
theorem wpR_first {late:List Nat}{wl:Bool}{i:Nat}{oi:Oper}{v:Value}(hi:ops[i]?=some oi)(hsel:∀(j:Nat) (o:Oper) cs b,ops[j]?=some o→o.op≠.select cs b)
 (hQ:∀c a w,Q (.panic c) (a.put oi.dst v) w→Q (.panic c) a w) (hlate:wl=true∨∀j∈late,i∈cover ops 6 (predsD ops j)) :
 ∀(fuel:Nat) (listed:Array Bool) (a:Act) (w:World),DC ops listed →
  (∀j oj,ops[j]?=some oj→j≠i→listed.getD j true=false→(∀e∈oj.after,Region.binds .any e=true→e.on≠i)→oi.apart ops oj=true) →
  i∈Region.ready .any ops listed→YieldsIf P ops (fun w'=>wl=true∨Ext w w') oi v a →
  wpR P ops Q late fuel (listed.setIfInBounds i true) (a.put oi.dst v) w→wpR P ops Q late (fuel+1) listed a w:=by
 intro fuel
 induction fuel with
 | zero=>
  intro listed a w _ _ hr hy H;refine⟨fun h=>(by rw[h] at hr;cases hr),fun j hj=>?_⟩
  by_cases hji:j=i
  ·subst hji;exact hy.wpOp hi (.inr (Ext.refl w)) ⟨.inr (Ext.refl w),H⟩
  ·have:=ready_mono hj hji;rw[H.1] at this;cases this
 | succ fuel ih=>
  intro listed a w hdc hfree hr hy H;refine⟨fun h=>(by rw[h] at hr;cases hr),fun j hj=>?_⟩
  by_cases hji:j=i
  ·subst hji;exact hy.wpOp hi (.inr (Ext.refl w)) ⟨.inr (Ext.refl w),H⟩
  ·have h1:=H.2 j (ready_mono hj hji);obtain⟨hjun,oj,hoj,hall⟩:=mem_ready.1 hj;have hiun:=(mem_ready.1 hr).1;have hnot:∀e∈oj.after,Region.binds .any e=true→e.on≠i:=fun e he hb heq=>by
    have h1:=hall e he hb;have h0:=hiun;rw[heq] at h1;rcases Nat.lt_or_ge i listed.size with h'|h'
    ·simp[h'] at h0 h1;rw[h0] at h1;cases h1
    ·simp[Array.getElem?_eq_none h'] at h1
   have h2:=wpOp_putIf hoj (hfree j oj hoj hji hjun hnot) (fun cs b=>hsel i oi cs b hi) (fun cs b=>hsel j oj cs b hoj) hQ hy h1
   have hfree':∀k ok,ops[k]?=some ok→k≠i→(listed.setIfInBounds j true).getD k true=false →
    (∀e∈ok.after,Region.binds .any e=true→e.on≠i)→oi.apart ops ok=true:=fun k ok hk hki hun hno=>by
    refine hfree k ok hk hki ?_ hno
    by_cases hjk:j=k
    ·subst hjk;exact hjun
    ·rw[getD_set_ne true hjk] at hun;exact hun
   refine wpOp_mono (fun a' w' h3=>⟨h3.2.1,ih (listed.setIfInBounds j true) a' w' (hdc.set_ hj) hfree' (ready_mono hr (Ne.symm hji)) ?_ ?_⟩) h2
   ·refine h3.1.imp (fun⟨hw,hv⟩=>⟨hw,fun w'' hs=>hv w'' ?_⟩) id;rcases hlate with hl|hl
    ·exact .inl hl
    ·rcases h3.2.1 with hlj|he
     ·exact absurd hiun (on_of_late hdc hj (hl j hlj))
     ·exact hs.imp id (fun h=>he.trans h)
   ·rw[Array.setIfInBounds_comm _ _ hji];exact h3.2.2
def AllocOf (P:Program)(o:Oper)(z:TypeId×Array Value): Prop:=
 o.op=.alloc z.1∧o.guard=none∧∀w,(Instr.alloc z.1 true (.tuple #[])).run P w=.ok (.pointer (some ⟨w.heap.size,0,none⟩)) (w.alloc (.cells z.2 z.1))
def dstAt (ops:Array Oper)(i:Nat): Option Tmp:=(ops[i]?).bind (·.dst)
def ptr (g:Nat): Value:=.pointer (some ⟨g,0,none⟩)
def WE (P:Program)(ops:Array Oper)(Q:Exit→Act→World→Prop)(A:Nat→TypeId×Array Value)(B:Nat): List (Nat×Nat)→List Nat→Act→World→Prop
 | [],_,a,w=>Q .normal a w
 | (i,0)::r,G,a,w=>∃o v,ops[i]?=some o∧YieldsIf P ops (fun w'=>Ext w w') o v a∧WE P ops Q A B r G (a.put o.dst v) w
 | (i,1)::r,G,a,w=>wpOp P ops Q i (fun a' w'=>Ext w w'∧WE P ops Q A B r G a' w') a w
 | (i,2)::r,G,a,w=>∀w1,Ext w w1→wpOp P ops Q i (fun a' w'=>Ext w1 w'∧WE P ops Q A B r G a' w') a w1
 | (i,3)::r,G,a,w=>∀g w1,Ext w w1→Box w1 g (A i).2 (A i).1→B≤g→g∉G→WE P ops Q A B r (g::G) (a.put (dstAt ops i) (ptr g)) w1
 | (i,4)::r,G,a,w=>wpOp P ops Q i (fun a' w'=>w.heap.size≤w'.heap.size∧WE P ops Q A B r G a' w') a w
 | (i,_+5)::r,G,a,w=>∃o v,ops[i]?=some o∧YieldsIf P ops (fun _=>True) o v a∧WE P ops Q A B r G (a.put o.dst v) w
def pend:List (Nat×Nat)→List Nat
 | []=>[]
 | (i,k)::r=>if k=3 then i::pend r else pend r
def lates:List (Nat×Nat)→List Nat
 | []=>[]
 | (i,k)::r=>if k=4 then i::lates r else lates r
def listAll (l:Array Bool): List Nat→Array Bool
 | []=>l
 | j::r=>listAll (l.setIfInBounds j true) r
def apartAll (ops:Array Oper)(i:Nat)(js:List Nat): Bool:=js.all fun j=>match ops[i]?,ops[j]? with|some oi,some oj=>oj.apart ops oi|_,_=>false
def aheadOf (ops:Array Oper)(i:Nat)(late:List Nat): Bool:=late.all fun j=>(cover ops 6 (predsD ops j)).contains i
def planE (ops:Array Oper)(late:List Nat): List (Nat×Nat)→Array Bool→Bool
 | [],l=>(Region.ready .any ops l).isEmpty
 | (i,k)::r,l=>(Region.ready .any ops l).contains i&&!(pend r).contains i&&planE ops late r (l.setIfInBounds i true) &&
  (match k with
  | 0=>Region.free .any ops l i&&apartAll ops i (pend r)&&aheadOf ops i late
  | 1=>(Region.ready .any ops l==[i])&&(pend r).isEmpty
  | 2=>(Region.ready .any ops (listAll l (pend r))==[i])&&apartAll ops i (pend r)
  | 3=>(Region.ready .any ops (listAll l (pend r))==[i])&&apartAll ops i (pend r)
  | 4=>(Region.ready .any ops l==[i])&&(pend r).isEmpty&&late.contains i
  | _=>Region.free .any ops l i&&apartAll ops i (pend r))
def putD (ops:Array Oper)(D:Nat→Option Nat)(j:Nat)(a:Act): Act:=match D j with|some g=>a.put (dstAt ops j) (ptr g)|none=>a
def setD (D:Nat→Option Nat)(j:Nat)(l:Array Bool): Array Bool:=match D j with|some _=>l.setIfInBounds j true|none=>l
def putsP (ops:Array Oper)(D:Nat→Option Nat): List Nat→Act→Act
 | [],a=>a
 | j::r,a=>putsP ops D r (putD ops D j a)
def listP (D:Nat→Option Nat): List Nat→Array Bool→Array Bool
 | [],l=>l
 | j::r,l=>listP D r (setD D j l)
def need (D:Nat→Option Nat): List (Nat×Nat)→Nat
 | []=>0
 | (i,k)::r=>(if k=3∧(D i).isSome=true then 0 else 1)+need D r
/- lists of what has come up -/
theorem set_comm (l:Array Bool)(i j:Nat): (l.setIfInBounds i true).setIfInBounds j true=(l.setIfInBounds j true).setIfInBounds i true:=by
 by_cases h:i=j
 ·subst h;rfl
 ·exact Array.setIfInBounds_comm _ _ h
theorem listP_set (D:Nat→Option Nat)(i:Nat): ∀(js:List Nat) (l:Array Bool),listP D js (l.setIfInBounds i true)=(listP D js l).setIfInBounds i true
 | [],_=>rfl
 | j::r,l=>by
  unfold listP setD
  split
  ·rw[set_comm,listP_set D i r]
  ·exact listP_set D i r _
theorem ready_listP {D:Nat→Option Nat}{k:Nat}: ∀(js:List Nat) (l:Array Bool),k∉js→k∈Region.ready .any ops l→k∈Region.ready .any ops (listP D js l)
 | [],_,_,h=>h
 | j::r,l,hk,h=>by
  unfold listP setD
  split
  ·exact ready_listP r _ (fun h'=>hk (List.mem_cons_of_mem _ h')) (ready_mono h (fun e=>hk (e▸List.mem_cons_self)))
  ·exact ready_listP r _ (fun h'=>hk (List.mem_cons_of_mem _ h')) h
theorem ready_listAll {D:Nat→Option Nat}{k:Nat}: ∀(js:List Nat) (l:Array Bool),k∉js→k∈Region.ready .any ops (listP D js l)→k∈Region.ready .any ops (listAll l js)
 | [],_,_,h=>h
 | j::r,l,hk,h=>by
  unfold listP setD at h;unfold listAll
  split at h
  ·exact ready_listAll r _ (fun h'=>hk (List.mem_cons_of_mem _ h')) h
  ·refine ready_listAll (D:=D) r _ (fun h'=>hk (List.mem_cons_of_mem _ h')) ?_;rw[listP_set];exact ready_mono h (fun e=>hk (e▸List.mem_cons_self))
theorem free_set {l:Array Bool}{i k:Nat}(h:Region.free .any ops l i=true): Region.free .any ops (l.setIfInBounds k true) i=true:=by
 unfold Region.free at *
 split
 ·next ho=>rw[ho] at h;cases h
 ·next oi ho=>
  rw[ho] at h;simp only at h;rw[List.all_eq_true] at *;intro j hj;have:=h j hj;simp only[Bool.or_eq_true] at this ⊢;rcases this with (h1|h1)|h1
  ·exact .inl (.inl h1)
  ·refine .inl (.inr ?_)
   by_cases hjk:k=j
   ·subst hjk;rcases Nat.lt_or_ge k l.size with h'|h'
    ·simp[h']
    ·rw[Array.getD_eq_getD_getElem?,Array.getElem?_eq_none (by simpa using h')];rfl
   ·rw[getD_set_ne true hjk];exact h1
  ·exact .inr h1
theorem free_listP {D:Nat→Option Nat}{i:Nat}: ∀(js:List Nat) (l:Array Bool),Region.free .any ops l i=true→Region.free .any ops (listP D js l) i=true
 | [],_,h=>h
 | j::r,l,h=>by
  unfold listP setD
  split
  ·exact free_listP r _ (free_set h)
  ·exact free_listP r _ h
theorem not_ready {l:Array Bool}{k:Nat}(h:k∈Region.ready .any ops l): l.getD k true=false:=(mem_ready.1 h).1
theorem listP_on {D:Nat→Option Nat}{k g:Nat}(hD:D k=some g): ∀(js:List Nat) (l:Array Bool),k∈js→(listP D js l).getD k true=true
 | [],_,h=>by cases h
 | j::r,l,h=>by
  have stay:∀(js:List Nat) (l:Array Bool),l.getD k true=true→(listP D js l).getD k true=true:=by
   intro js
   induction js with
   | nil=>exact fun _ h=>h
   | cons j r ih=>
    intro l h;unfold listP setD
    split
    ·refine ih _ ?_
     by_cases hjk:j=k
     ·subst hjk;rcases Nat.lt_or_ge j l.size with h'|h'
      ·simp[h']
      ·rw[Array.getD_eq_getD_getElem?,Array.getElem?_eq_none (by simpa using h')];rfl
     ·rw[getD_set_ne true hjk];exact h
    ·exact ih _ h
  unfold listP;rcases List.mem_cons.1 h with rfl|h'
  ·refine stay r _ ?_;unfold setD;rw[hD];simp only;rcases Nat.lt_or_ge k l.size with h'|h'
   ·simp[h']
   ·rw[Array.getD_eq_getD_getElem?,Array.getElem?_eq_none (by simpa using h')];rfl
  ·exact listP_on hD r _ h'
/- the variables' slots -/
theorem putD_put {D:Nat→Option Nat}{j:Nat}{x:Option Tmp}{v:Value}{a:Act}(h:∀d,dstAt ops j=some d→x≠some d): putD ops D j (a.put x v)=(putD ops D j a).put x v:=by
 unfold putD
 split
 ·exact Act.put_comm a v _ (fun d hd he=>h d he hd)
 ·rfl
theorem putsP_put {D:Nat→Option Nat}{x:Option Tmp}{v:Value}: ∀(js:List Nat) (a:Act),(∀j∈js,∀d,dstAt ops j=some d→x≠some d)→putsP ops D js (a.put x v)=(putsP ops D js a).put x v
 | [],_,_=>rfl
 | j::r,a,h=>by
  unfold putsP;rw[putD_put (h j List.mem_cons_self)];exact putsP_put r _ (fun j' hj'=>h j' (List.mem_cons_of_mem _ hj'))
def upd (D:Nat→Option Nat)(j g:Nat): Nat→Option Nat:=fun k=>if k=j then some g else D k
theorem upd_self (D:Nat→Option Nat)(j g:Nat): upd D j g j=some g:=if_pos rfl
theorem upd_other {D:Nat→Option Nat}{j g k:Nat}(h:k≠j): upd D j g k=D k:=if_neg h
theorem putsP_off {D:Nat→Option Nat}{j g:Nat}: ∀(js:List Nat) (a:Act),j∉js→putsP ops (upd D j g) js a=putsP ops D js a
 | [],_,_=>rfl
 | k::r,a,h=>by
  unfold putsP putD;rw[upd_other (fun e:k=j=>h (by rw[e];exact List.mem_cons_self))];exact putsP_off r _ (fun h'=>h (List.mem_cons_of_mem _ h'))
theorem listP_off {D:Nat→Option Nat}{j g:Nat}: ∀(js:List Nat) (l:Array Bool),j∉js→listP (upd D j g) js l=listP D js l
 | [],_,_=>rfl
 | k::r,l,h=>by
  unfold listP setD;rw[upd_other (fun e:k=j=>h (by rw[e];exact List.mem_cons_self))];exact listP_off r _ (fun h'=>h (List.mem_cons_of_mem _ h'))
def Slots (ops:Array Oper)(js:List Nat): Prop:=js.Nodup∧∀j∈js,∀k∈js,j≠k→∀d,dstAt ops j=some d→dstAt ops k≠some d
theorem Slots.tail {j:Nat}{r:List Nat}(h:Slots ops (j::r)): Slots ops r:=
 ⟨(List.nodup_cons.1 h.1).2,fun i hi k hk=>h.2 i (List.mem_cons_of_mem _ hi) k (List.mem_cons_of_mem _ hk)⟩
theorem putsP_upd {D:Nat→Option Nat}{j g:Nat}(hD:D j=none): ∀(js:List Nat) (a:Act),j∈js→Slots ops js→putsP ops (upd D j g) js a=(putsP ops D js a).put (dstAt ops j) (ptr g)
 | [],_,h,_=>by cases h
 | k::r,a,h,hs=>by
  unfold putsP
  by_cases hk:k=j
  ·subst hk;have hn:=(List.nodup_cons.1 hs.1).1;rw[putsP_off r _ hn];unfold putD;rw[upd_self,hD];exact putsP_put r a (fun j' hj' d hd he=>hs.2 j' (List.mem_cons_of_mem _ hj') k List.mem_cons_self (fun e=>hn (e▸hj')) d hd he)
  ·have hj:j∈r:=(List.mem_cons.1 h).resolve_left (fun e=>hk e.symm);have:putD ops (upd D j g) k a=putD ops D k a:=by unfold putD;rw[upd_other hk]
   rw[this];exact putsP_upd hD r _ hj hs.tail
theorem listP_upd {D:Nat→Option Nat}{j g:Nat}(hD:D j=none): ∀(js:List Nat) (l:Array Bool),j∈js→js.Nodup→listP (upd D j g) js l=(listP D js l).setIfInBounds j true
 | [],_,h,_=>by cases h
 | k::r,l,h,hs=>by
  unfold listP;have hs':=List.nodup_cons.1 hs
  by_cases hk:k=j
  ·subst hk;rw[listP_off r _ hs'.1];unfold setD;rw[upd_self,hD];exact listP_set D k r l
  ·have hj:j∈r:=(List.mem_cons.1 h).resolve_left (fun e=>hk e.symm);have:setD (upd D j g) k l=setD D k l:=by unfold setD;rw[upd_other hk]
   rw[this];exact listP_upd hD r _ hj hs'.2
theorem need_upd {D:Nat→Option Nat}{j g:Nat}(hD:D j=none): ∀(p:List (Nat×Nat)),need (upd D j g) p≤need D p∧(j∈pend p→need (upd D j g) p+1≤need D p)
 | []=>⟨Nat.le_refl _,by intro h;cases h⟩
 | (i,k)::r=>by
  have ih:=need_upd (g:=g) hD r
  by_cases hk:k=3
  ·subst hk;simp only[need,pend,if_true,true_and]
   by_cases hi:i=j
   ·subst hi;rw[upd_self,hD];exact⟨by simp;omega,fun _=>by simp;omega⟩
   ·rw[upd_other hi];refine⟨by omega,fun h=>?_⟩;have:=ih.2 ((List.mem_cons.1 h).resolve_left (fun e=>hi e.symm));omega
  ·simp only[need,pend,hk,false_and,if_false];exact⟨by omega,fun h=>by have:=ih.2 h;omega⟩
/- one operation beside a slot that it doesn't look at -/
theorem wpOp_through {i:Nat}{oi:Oper}{x:Option Tmp}{v:Value}(hoi:ops[i]?=some oi)(h1:∀d,x=some d→d∉oi.looksAt ops)(h2:∀d,x=some d→oi.dst≠some d)
 (hsi:∀cs b,oi.op≠.select cs b) (hQ:∀c a w,Q (.panic c) a w→Q (.panic c) (a.put x v) w) {K:Act→World→Prop} {a:Act} {w:World}
 (h:wpOp P ops Q i K a w):wpOp P ops Q i (fun a' w'=>∃a0,a'=a0.put x v∧K a0 w') (a.put x v) w:=by
 unfold wpOp at *;simp only[hoi] at *;rw[wanted_put oi a x v h1]
 split
 ·rename_i hw
  simp only[hw,if_true] at h;rcases h with h|⟨hasks,hlets⟩
  case inr=>exact .inr ⟨by unfold Oper.asks at *;rw[execOp_put oi hsi a x v h1];exact hasks,hlets⟩
  refine .inl ?_;unfold Oper.wp at *;rw[execOp_put oi hsi a x v h1];generalize (execOp a.eval oi).run P w=r at *;cases r with
  | ok n w'=>
   cases n<;>simp only[Oper.upon] at h ⊢
   case value u=>exact⟨_,Act.put_comm a v u h2,h⟩
   case skip=>exact⟨_,Act.put_comm a v undef h2,h⟩
   case defer d=>
    refine⟨({ a with defers:=d::a.defers }:Act).put oi.dst undef,?_,h⟩;rw[Act.put_defers];exact Act.put_comm _ v undef h2
   case enter f args=>
    refine Calls.mono h fun e w'' he=>?_;cases e with
    | returned u=>exact⟨_,Act.put_comm a v u h2,he⟩
    | panicked c=>exact hQ _ _ _ he
    | outgrown=>exact he
   case row row args=>exact Rows.mono h fun u w'' he=>⟨_,Act.put_comm a v u h2,he⟩
  | halt y w'=>
   cases y<;>simp only[Oper.upon] at h ⊢
   case panic u=>exact hQ _ _ _ h
   all_goals exact h
 ·rename_i hw
  simp only[hw] at h;exact⟨_,Act.put_comm a v undef h2,h⟩
theorem apartAll_of {i:Nat}{oi:Oper}(hoi:ops[i]?=some oi){js:List Nat}(h:apartAll ops i js=true){j:Nat}(hj:j∈js): ∃oj,ops[j]?=some oj∧oj.apart ops oi=true:=by
 have:=List.all_eq_true.1 h j hj;rw[hoi] at this;cases hoj:ops[j]? with
 | none=>rw[hoj] at this;cases this
 | some oj=>rw[hoj] at this;exact⟨oj,rfl,this⟩
theorem apartAll_tail {i j:Nat}{r:List Nat}(h:apartAll ops i (j::r)=true): apartAll ops i r=true:=by
 unfold apartAll at *;rw[List.all_cons,Bool.and_eq_true] at h;exact h.2
theorem wpOp_puts {i:Nat}{oi:Oper}(hoi:ops[i]?=some oi)(hsi:∀cs b,oi.op≠.select cs b)(hQ:∀c a d v w,Q (.panic c) (Act.put a d v) w↔Q (.panic c) a w){D:Nat→Option Nat}{w:World}:
 ∀(js:List Nat) (K:Act→World→Prop) (a:Act),apartAll ops i js=true→wpOp P ops Q i K a w→wpOp P ops Q i (fun a' w'=>∃a0,a'=putsP ops D js a0∧K a0 w') (putsP ops D js a) w
 | [],K,a,_,h=>wpOp_mono (fun a' w' hk=>⟨a',rfl,hk⟩) h
 | j::r,K,a,hap,h=>by
  unfold putsP;obtain⟨oj,hoj,ha⟩:=apartAll_of hoi hap List.mem_cons_self;obtain⟨a1,a2,a3⟩:=Oper.apart_spec ha;have hd:dstAt ops j=oj.dst:=by unfold dstAt;rw[hoj];rfl
  have step:wpOp P ops Q i (fun a' w'=>∃a0,a'=putD ops D j a0∧K a0 w') (putD ops D j a) w:=by
   unfold putD
   split
   ·rw[hd];exact wpOp_through hoi a1 a2 hsi (fun c a w=>(hQ c a _ _ w).2) h
   ·exact wpOp_mono (fun a' w' hk=>⟨a',rfl,hk⟩) h
  refine wpOp_mono ?_ (wpOp_puts hoi hsi hQ r _ _ (apartAll_tail hap) step);rintro a' w' ⟨a0,rfl,a00,rfl,hk⟩;exact⟨a00,rfl,hk⟩
theorem yields_puts {i:Nat}{oi:Oper}{S:World→Prop}{v:Value}(hoi:ops[i]?=some oi)(hsi:∀cs b,oi.op≠.select cs b){D:Nat→Option Nat}:
 ∀(js:List Nat) (a:Act),apartAll ops i js=true→YieldsIf P ops S oi v a→YieldsIf P ops S oi v (putsP ops D js a)
 | [],_,_,h=>h
 | j::r,a,hap,h=>by
  unfold putsP;refine yields_puts hoi hsi r _ (apartAll_tail hap) ?_;obtain⟨oj,hoj,ha⟩:=apartAll_of hoi hap List.mem_cons_self;obtain⟨a1,a2,a3⟩:=Oper.apart_spec ha;have hd:dstAt ops j=oj.dst:=by unfold dstAt;rw[hoj];rfl
  unfold putD
  split
  ·rw[hd];exact h.of_same (execOp_put oi hsi a _ _ a1) (wanted_put oi a _ _ a1)
  ·exact h
end
section
variable {P:Program} {ops:Array Oper} {Q:Exit→Act→World→Prop}
theorem slots_of {late:List Nat}: ∀(p:List (Nat×Nat)) (l:Array Bool),planE ops late p l=true→Slots ops (pend p)
 | [],_,_=>⟨List.nodup_nil,by intro j h;cases h⟩
 | (i,k)::r,l,h=>by
  simp only[planE,Bool.and_eq_true] at h;obtain⟨⟨⟨h0,h3⟩,h4⟩,h5⟩:=h;have ih:=slots_of r _ h4
  by_cases hk:k=3
  ·subst hk;simp only[Bool.and_eq_true] at h5;have h2:=h5.2;have hp:pend ((i,3)::r)=i::pend r:=rfl;rw[hp];have hi:i∉pend r:=by simpa using h3
   have key:∀j∈pend r,∀d,dstAt ops j=some d→dstAt ops i≠some d:=by
    intro j hj d hd;have hr:i∈Region.ready .any ops l:=by simpa using h0
    obtain⟨_,oi,hoi,_⟩:=mem_ready.1 hr;obtain⟨oj,hoj,ha⟩:=apartAll_of hoi h2 hj;obtain⟨a1,a2,a3⟩:=Oper.apart_spec ha;unfold dstAt at *;rw[hoj] at hd;rw[hoi];exact a2 d hd
   refine⟨List.nodup_cons.2 ⟨hi,ih.1⟩,?_⟩;intro j hj j' hj' hne d hd;rcases List.mem_cons.1 hj with e|q5<;>rcases List.mem_cons.1 hj' with e'|q6
   ·exact absurd (e.trans e'.symm) hne
   ·subst e;exact fun he=>key j' q6 d he hd
   ·subst e';exact key j q5 d hd
   ·exact ih.2 j q5 j' q6 hne d hd
  ·have hp:pend ((i,k)::r)=pend r:=by simp[pend,hk]
   rw[hp];exact ih
theorem wpOp_alloc {j:Nat}{o:Oper}{z:TypeId×Array Value}(ho:ops[j]?=some o)(hz:AllocOf P o z){K:Act→World→Prop}{a:Act}{w:World}
 (h:K (a.put (dstAt ops j) (ptr w.heap.size)) (w.alloc (.cells z.2 z.1))):wpOp P ops Q j K a w:=by
 obtain⟨h1,h2,h3⟩:=hz;have hd:dstAt ops j=o.dst:=by unfold dstAt;rw[ho];rfl
 have hw:Region.wanted o (yielded ops a.tmps)=true:=by unfold Region.wanted;rw[h2]
 unfold wpOp;simp only[ho,hw,if_true];refine .inl ?_;unfold Oper.wp execOp;simp only[h1,Sem.run_bind,Sem.run_pure,h3,Result.andThen_ok,Oper.upon];rw[hd] at h;exact h
theorem DC.listP {D:Nat→Option Nat}: ∀(js:List Nat) (l:Array Bool),DC ops l→(∀j∈js,j∈Region.ready .any ops l∨l.getD j false=true∨D j=none)→DC ops (Go.Proofs.YtoenjbkmiphhoaaGreatDoor.listP D js l)
 | [],_,h,_=>h
 | j::r,l,h,hj=>by
  unfold Go.Proofs.YtoenjbkmiphhoaaGreatDoor.listP setD
  split
  ·next g hg=>
   rcases hj j List.mem_cons_self with h1|h1|h1
   ·refine DC.listP r _ (h.set_ h1) fun k hk=>?_;rcases hj k (List.mem_cons_of_mem _ hk) with h2|h2|h2
    ·by_cases hkj:k=j
     ·subst hkj;refine .inr (.inl ?_);have hs:=(mem_ready.1 h1).1;rcases Nat.lt_or_ge k l.size with h'|h'
      ·simp[h']
      ·rw[Array.getD_eq_getD_getElem?,Array.getElem?_eq_none h'] at hs;cases hs
     ·exact .inl (ready_mono h2 hkj)
    ·exact .inr (.inl (getD_set_true h2))
    ·exact .inr (.inr h2)
   ·have:l.setIfInBounds j true=l:=by
     rcases Nat.lt_or_ge j l.size with h'|h'
     ·apply Array.ext_getElem?
      intro k
      by_cases hjk:j=k
      ·subst hjk;simp[h'] at h1 ⊢;exact h1
      ·rw[Array.getElem?_setIfInBounds_ne hjk]
     ·exact Array.setIfInBounds_eq_of_size_le h'
    rw[this];exact DC.listP r _ h fun k hk=>hj k (List.mem_cons_of_mem _ hk)
   ·rw[hg] at h1;cases h1
  ·exact DC.listP r _ h fun k hk=>hj k (List.mem_cons_of_mem _ hk)
theorem YieldsIf.weaken {S S':World→Prop}{o:Oper}{v:Value}{a:Act}(h:YieldsIf P ops S o v a)(hs:∀w,S' w→S w): YieldsIf P ops S' o v a:=
 h.imp (fun⟨h1,h2⟩=>⟨h1,fun w hw=>h2 w (hs w hw)⟩) id
theorem WE.sound {A:Nat→TypeId×Array Value}{B:Nat}{late:List Nat}(hs:Region.noSelect ops=true)(hQ:∀c a d v w,Q (.panic c) (Act.put a d v) w↔Q (.panic c) a w): ∀(n:Nat) (plan:List (Nat×Nat)) (fuel:Nat) (listed:Array Bool) (D:Nat→Option Nat) (G:List Nat) (a:Act) (w wA:World),
 fuel+plan.length≤n→planE ops late plan listed=true→(∀j∈pend plan,∃o,ops[j]?=some o∧AllocOf P o (A j))→need D plan≤fuel→DC ops (listP D (pend plan) listed) →
 (∀j∈pend plan,∀g,D j=some g→B≤g∧g∉G∧Box wA g (A j).2 (A j).1) →
 (∀j∈pend plan,∀k∈pend plan,∀g,D j=some g→D k=some g→j=k) →
 Ext w wA→((∀j∈pend plan,D j=none)→wA=w)→B≤wA.heap.size→(∀g∈G,g<wA.heap.size) →
 WE P ops Q A B plan G a w→wpR P ops Q late fuel (listP D (pend plan) listed) (putsP ops D (pend plan) a) wA:=by
 intro n
 induction n with
 | zero=>
  intro plan fuel listed D G a w wA hn hp hA hf hdc hD hI hE hw hB hG h
  match plan with
  | []=>
   have e:wA=w:=hw (by intro j hj;cases hj);subst e;have hr:Region.ready .any ops listed=[]:=by simpa [planE] using hp
   match fuel with
   | 0=>exact⟨hr,h⟩
   | f+1=>simp at hn
  | _::_=>simp at hn
 | succ n ih=>
  intro plan fuel listed D G a w wA hn hp hA hf hdc hD hI hE hw hB hG h
  have early:∀(f:Nat) (j:Nat),fuel=f+1→j∈pend plan→D j=none→j∈Region.ready .any ops (listP D (pend plan) listed) →
   wpOp P ops Q j (fun a' w'=>(j∈late∨Ext wA w')∧wpR P ops Q late f ((listP D (pend plan) listed).setIfInBounds j true) a' w') (putsP ops D (pend plan) a) wA:=by
   intro f j hfu hj hDj hjr;obtain⟨o,ho,hz⟩:=hA j hj;refine wpOp_alloc ho hz ⟨.inr (Ext.alloc _ _),?_⟩;have hsl:=slots_of plan listed hp;have hdc':=hdc.set_ hjr;rw[←listP_upd (g:=wA.heap.size) hDj (pend plan) listed hj hsl.1] at hdc';rw[←putsP_upd hDj (pend plan) a hj hsl,←listP_upd (g:=wA.heap.size) hDj (pend plan) listed hj hsl.1];have hnu:=(need_upd (g:=wA.heap.size) hDj plan).2 hj;refine ih plan f listed (upd D j wA.heap.size) G a w _ (by omega) hp hA (by omega) hdc' ?_ ?_ (hE.alloc' _) (fun h0=>?_) ?_ ?_ h
   ·intro k hk g hg
    by_cases hkj:k=j
    ·subst hkj;rw[upd_self] at hg;injection hg with hg;subst hg;exact⟨hB,fun hx=>Nat.lt_irrefl _ (hG _ hx),Box.new _ _ _⟩
    ·rw[upd_other hkj] at hg;obtain⟨b1,b2,b3⟩:=hD k hk g hg;exact⟨b1,b2,b3.alloc _⟩
   ·intro k hk k' hk' g hg hg'
    by_cases hkj:k=j<;>by_cases hkj':k'=j
    ·rw[hkj,hkj']
    ·rw[hkj,upd_self] at hg;rw[upd_other hkj'] at hg';injection hg with hg;subst hg;exact absurd (hD k' hk' _ hg').2.2.lt (Nat.lt_irrefl _)
    ·rw[hkj',upd_self] at hg';rw[upd_other hkj] at hg;injection hg' with hg';subst hg';exact absurd (hD k hk _ hg).2.2.lt (Nat.lt_irrefl _)
    ·rw[upd_other hkj] at hg;rw[upd_other hkj'] at hg';exact hI k hk k' hk' g hg hg'
   ·have:=h0 j hj;rw[upd_self] at this;cases this
   ·exact Nat.le_trans hB (Ext.alloc wA (.cells (A j).2 (A j).1)).size
   ·exact fun g hg=>Nat.lt_of_lt_of_le (hG g hg) (Ext.alloc wA (.cells (A j).2 (A j).1)).size
  match plan with
  | []=>
   have e:wA=w:=hw (by intro j hj;cases hj);subst e;have hr:Region.ready .any ops listed=[]:=by simpa [planE] using hp
   match fuel with
   | 0=>exact⟨hr,h⟩
   | f+1=>exact⟨fun _=>h,fun i hi=>(by rw[show Region.ready .any ops (listP D (pend []) listed)=[] from hr] at hi;cases hi)⟩
  | (i,k)::r=>
   simp only[planE,Bool.and_eq_true] at hp;obtain⟨⟨⟨h0,h3⟩,h4⟩,h5⟩:=id hp;have hi:i∉pend r:=by simpa using h3
   have hri:i∈Region.ready .any ops listed:=by simpa using h0
   -- a value that is taken first
   have pure:∀(wl:Bool) (f:Nat) (o:Oper) (v:Value),pend ((i,k)::r)=pend r→fuel=f+1→need D r≤f→Region.free .any ops listed i=true→apartAll ops i (pend r)=true→(wl=true∨∀j∈late,i∈cover ops 6 (predsD ops j)) →
    ops[i]?=some o→YieldsIf P ops (fun w'=>wl=true∨Ext w w') o v a→WE P ops Q A B r G (a.put o.dst v) w→wpR P ops Q late fuel (listP D (pend ((i,k)::r)) listed) (putsP ops D (pend ((i,k)::r)) a) wA:=by
    intro wl f o v hpe hfu hfn h1 h2 hl ho hy h;subst hfu;rw[hpe] at hA hdc hD hI hw ⊢;have hsi:=Region.noSelect_spec hs i o;have e1:=listP_set D i (pend r) listed;have e2:putsP ops D (pend r) (a.put o.dst v)=(putsP ops D (pend r) a).put o.dst v:=putsP_put (pend r) a (by
     intro j hj d hd he;obtain⟨oj,hoj,ha⟩:=apartAll_of ho h2 hj;obtain⟨a1,a2,a3⟩:=Oper.apart_spec ha;unfold dstAt at hd;rw[hoj] at hd;exact a2 d hd he)
    have hrA:=ready_listP (D:=D) (pend r) listed hi hri
    refine wpR_first (wl:=wl) ho (Region.noSelect_spec hs) (fun c a w=>(hQ c a _ _ w).1) hl f _ _ _ hdc (Region.free_spec ho (free_listP _ _ h1)) hrA
     (yields_puts ho (fun cs b=>hsi cs b ho) (pend r) a h2 (YieldsIf.weaken hy (fun w'' h''=>h''.imp id (fun h''=>hE.trans h'')))) ?_
    rw[←e1,←e2];exact ih r f _ D G _ w wA (by simp at hn;omega) h4 hA hfn (by rw[e1];exact hdc.set_ hrA) hD hI hE hw hB hG h
   match k,hp,hA,hf,hdc,hD,hI,hw,h,h5,early,pure with
   | 0,hp,hA,hf,hdc,hD,hI,hw,h,h5,early,pure=>
    match fuel with
    | 0=>simp[need] at hf
    | f+1=>
     obtain⟨o,v,ho,hy,h⟩:=h;simp only[Bool.and_eq_true] at h5;refine pure false f o v rfl rfl (by simp[need] at hf;omega) h5.1.1 h5.1.2 (.inr fun j hj=>?_) ho (YieldsIf.weaken hy (fun w'' h''=>h''.resolve_left (by simp))) h;have:=List.all_eq_true.1 h5.2 j hj;simpa using this
   | k+5,hp,hA,hf,hdc,hD,hI,hw,h,h5,early,pure=>
    match fuel with
    | 0=>simp[need] at hf
    | f+1=>
     obtain⟨o,v,ho,hy,h⟩:=h;simp only[Bool.and_eq_true] at h5;exact pure true f o v (by simp[pend]) rfl (by simp[need] at hf;omega) h5.1 h5.2 (.inl rfl) ho (YieldsIf.weaken hy (fun w'' _=>trivial)) h
   | 1,hp,hA,hf,hdc,hD,hI,hw,h,h5,early,pure=>
    match fuel with
    | 0=>simp[need] at hf
    | f+1=>
     simp only[Bool.and_eq_true,beq_iff_eq] at h5;have hr:pend r=[]:=by simpa using h5.2
     have hpd:pend ((i,1)::r)=[]:=hr;have e:wA=w:=hw (by rw[hpd];intro j hj;cases hj);subst e;have hdc2:DC ops listed:=by rw[hpd] at hdc;exact hdc
     rw[hpd];refine⟨fun h0=>absurd hri (by rw[show Region.ready .any ops listed=[] from h0];simp),fun j hj=>?_⟩;have hj':j∈Region.ready .any ops listed:=hj;have hjr:=hj';rw[h5.1] at hj';obtain rfl:j=i:=by simpa using hj'
     refine wpOp_mono (fun a' w' hk=>⟨.inr hk.1,?_⟩) h;have:=ih r f (listed.setIfInBounds j true) D G a' w' w' (by simp at hn;omega) h4 (by rw[hr];intro j hj;cases hj) (by simp[need] at hf;omega) (by rw[hr];exact DC.set_ hdc2 hjr) (by rw[hr];intro j hj;cases hj) (by rw[hr];intro j hj;cases hj) (Ext.refl _) (fun _=>rfl) (Nat.le_trans hB hk.1.size) (fun g hg=>Nat.lt_of_lt_of_le (hG g hg) hk.1.size) hk.2;rw[hr] at this;exact this
   | 4,hp,hA,hf,hdc,hD,hI,hw,h,h5,early,pure=>
    match fuel with
    | 0=>simp[need] at hf
    | f+1=>
     simp only[Bool.and_eq_true,beq_iff_eq] at h5;have hr:pend r=[]:=by simpa using h5.1.2
     have hil:i∈late:=by simpa using h5.2
     have hpd:pend ((i,4)::r)=[]:=hr;have e:wA=w:=hw (by rw[hpd];intro j hj;cases hj);subst e;have hdc2:DC ops listed:=by rw[hpd] at hdc;exact hdc
     rw[hpd];refine⟨fun h0=>absurd hri (by rw[show Region.ready .any ops listed=[] from h0];simp),fun j hj=>?_⟩;have hj':j∈Region.ready .any ops listed:=hj;have hjr:=hj';rw[h5.1.1] at hj';obtain rfl:j=i:=by simpa using hj'
     refine wpOp_mono (fun a' w' hk=>⟨.inl hil,?_⟩) h;have:=ih r f (listed.setIfInBounds j true) D G a' w' w' (by simp at hn;omega) h4 (by rw[hr];intro j hj;cases hj) (by simp[need] at hf;omega) (by rw[hr];exact DC.set_ hdc2 hjr) (by rw[hr];intro j hj;cases hj) (by rw[hr];intro j hj;cases hj) (Ext.refl _) (fun _=>rfl) (Nat.le_trans hB hk.1) (fun g hg=>Nat.lt_of_lt_of_le (hG g hg) hk.1) hk.2;rw[hr] at this;exact this
   | 2,hp,hA,hf,hdc,hD,hI,hw,h,h5,early,pure=>
    match fuel with
    | 0=>simp[need] at hf
    | f+1=>
     simp only[Bool.and_eq_true,beq_iff_eq] at h5;obtain⟨h1,h2⟩:=h5;obtain⟨_,o,ho,_⟩:=mem_ready.1 hri;have hrA:i∈Region.ready .any ops (listP D (pend r) listed):=ready_listP (pend r) listed hi hri;have hdc':DC ops (listP D (pend r) listed):=hdc;refine⟨fun h0=>absurd hrA (by rw[show Region.ready .any ops (listP D (pend r) listed)=[] from h0];simp),fun j hj=>?_⟩;have hj':j∈Region.ready .any ops (listP D (pend r) listed):=hj
     by_cases hjp:j∈pend r
     ·refine early f j rfl hjp ?_ hj;cases hDj:D j with
      | none=>rfl
      | some g=>
       have:=listP_on hDj (pend r) listed hjp;rw[not_ready hj'] at this;cases this
     ·have hja:=ready_listAll (pend r) listed hjp hj';rw[h1] at hja;obtain rfl:j=i:=by simpa using hja
      have hsi:=Region.noSelect_spec hs j o;have hw2:=wpOp_puts ho (fun cs b=>hsi cs b ho) hQ (D:=D) (pend r) _ a h2 (h wA hE);refine wpOp_mono ?_ hw2;rintro a' w' ⟨a0,rfl,hk,hh⟩;refine⟨.inr hk,?_⟩;have e1:=listP_set D j (pend r) listed;show wpR P ops Q late f ((listP D (pend r) listed).setIfInBounds j true) (putsP ops D (pend r) a0) w';rw[←e1];refine ih r f _ D G a0 w' w' (by simp at hn;omega) h4 hA (by simp[need] at hf;omega) (by rw[e1];exact hdc'.set_ hrA) ?_ hI (Ext.refl _) (fun _=>rfl) (Nat.le_trans hB hk.size) (fun g hg=>Nat.lt_of_lt_of_le (hG g hg) hk.size) hh;intro k hk' g hg;obtain⟨b1,b2,b3⟩:=hD k hk' g hg;exact⟨b1,b2,b3.up hk⟩
   | 3,hp,hA,hf,hdc,hD,hI,hw,h,h5,early,pure=>
    simp only[Bool.and_eq_true,beq_iff_eq] at h5;obtain⟨h1,h2⟩:=h5;have hpd:pend ((i,3)::r)=i::pend r:=rfl;rw[hpd] at hA hdc hD hI hw early ⊢;cases hDi:D i with
    | some g=>
     obtain⟨b1,b2,b3⟩:=hD i List.mem_cons_self g hDi;have hh:=h g wA hE b3 b1 b2;have e1:listP D (i::pend r) listed=listP D (pend r) (listed.setIfInBounds i true):=by
      show listP D (pend r) (setD D i listed)=_;unfold setD;rw[hDi]
     have e2:putsP ops D (i::pend r) a=putsP ops D (pend r) (a.put (dstAt ops i) (ptr g)):=by
      show putsP ops D (pend r) (putD ops D i a)=_;unfold putD;rw[hDi]
     rw[e1] at hdc;rw[e1,e2];refine ih r fuel _ D (g::G) _ wA wA (by simp at hn;omega) h4 (fun j hj=>hA j (List.mem_cons_of_mem _ hj)) (by simp[need,hDi] at hf;omega) hdc ?_ (fun j hj k hk=>hI j (List.mem_cons_of_mem _ hj) k (List.mem_cons_of_mem _ hk)) (Ext.refl _) (fun _=>rfl) hB ?_ hh
     ·intro j hj g' hg';obtain⟨c1,c2,c3⟩:=hD j (List.mem_cons_of_mem _ hj) g' hg';refine⟨c1,?_,c3⟩;intro hx;rcases List.mem_cons.1 hx with rfl|hx
      ·exact hi (by rw[hI i List.mem_cons_self j (List.mem_cons_of_mem _ hj) g' hDi hg'];exact hj)
      ·exact c2 hx
     ·intro g' hx;rcases List.mem_cons.1 hx with rfl|hx
      ·exact b3.lt
      ·exact hG g' hx
    | none=>
     match fuel with
     | 0=>simp[need,hDi] at hf
     | f+1=>
      have e1:listP D (i::pend r) listed=listP D (pend r) listed:=by
       show listP D (pend r) (setD D i listed)=_;unfold setD;rw[hDi]
      have hrA:i∈Region.ready .any ops (listP D (pend r) listed):=ready_listP (pend r) listed hi hri;refine⟨fun h0=>absurd hrA (by rw[←e1,h0];simp),fun j hj=>?_⟩;have hj':j∈Region.ready .any ops (listP D (pend r) listed):=by rw[←e1];exact hj
      by_cases hji:j=i
      ·subst hji;exact early f j rfl List.mem_cons_self hDi hj
      by_cases hjp:j∈pend r
      ·refine early f j rfl (List.mem_cons_of_mem _ hjp) ?_ hj;cases hDj:D j with
       | none=>rfl
       | some g=>
        have:=listP_on hDj (pend r) listed hjp;rw[not_ready hj'] at this;cases this
      ·have hja:=ready_listAll (pend r) listed hjp hj';rw[h1] at hja;exact absurd (by simpa using hja) hji
theorem wp_region_E {id:Nat}{a:Act}{w:World}(plan:List (Nat×Nat))(A:Nat→TypeId×Array Value)(hm:P.follows .mixedOrders=true)
 (hp:(Region.noSelect ops&&planE ops (lates plan) plan (Array.replicate ops.size false)&&decide (need (fun _=>none) plan≤ops.size))=true)
 (hA:∀j∈pend plan,∃o,ops[j]?=some o∧AllocOf P o (A j))
 (hQ:∀c a d v w,Q (.panic c) (Act.put a d v) w↔Q (.panic c) a w)
 (h:∀wd,Ext w wd→WE P ops Q A wd.heap.size plan [] a wd):(Code.region id ops true).wp P Q a w:=by
 simp only[Bool.and_eq_true,decide_eq_true_eq] at hp;have hl:∀(js:List Nat) (l:Array Bool),listP (fun _=>none) js l=l:=by
  intro js;induction js with
  | nil=>exact fun _=>rfl
  | cons j r ih=>intro l;exact ih l
 have hpt:∀(js:List Nat) (a:Act),putsP ops (fun _=>none) js a=a:=by
  intro js;induction js with
  | nil=>exact fun _=>rfl
  | cons j r ih=>intro l;exact ih l
 have hdc:DC ops (Array.replicate ops.size false):=by
  intro k hk;exfalso;rcases Nat.lt_or_ge k ops.size with h'|h'
  ·simp[h'] at hk
  ·rw[Array.getD_eq_getD_getElem?,Array.getElem?_eq_none (by simpa using h')] at hk;cases hk
 have:=WE.sound (B:=w.heap.size) (late:=lates plan) (A:=A) hp.1.1 hQ _ plan ops.size (Array.replicate ops.size false) (fun _=>none) [] a { w with drawn:=w.drawn+1 } { w with drawn:=w.drawn+1 } (Nat.le_refl _) hp.1.2 hA hp.2 (by rw[hl];exact hdc) (by intro _ _ _ h;cases h) (by intro _ _ _ _ _ h;cases h) (Ext.refl _) (fun _=>rfl) (Nat.le_refl _) (by intro _ h;cases h) (h _ (Below.drew (Below.refl _ _)));rw[hl,hpt] at this;exact wp_region_any hm (wpAny_of_R _ _ _ _ this)
variable {A:Nat→TypeId×Array Value} {B:Nat} {G:List Nat} {i:Nat} {r:List (Nat×Nat)} {a:Act} {w:World} {o:Oper} {d:Option Tmp}
theorem WE.done (h:Q .normal a w): WE P ops Q A B [] G a w:=h
theorem WE.pure {v:Value}(ho:ops[i]?=some o)(hd:o.dst=d)(hw:Region.wanted o (yielded ops a.tmps)=true)
 (hy:∀w',Ext w w'→(execOp a.eval o).run P w'=.ok (.value v) w') (h:WE P ops Q A B r G (a.put d v) w):WE P ops Q A B ((i,0)::r) G a w:=
 ⟨o,v,ho,.inl ⟨hw,hy⟩,hd▸h⟩
theorem WE.skip (ho:ops[i]?=some o)(hd:o.dst=d)(hw:Region.wanted o (yielded ops a.tmps)=false)
 (h:WE P ops Q A B r G (a.put d undef) w):WE P ops Q A B ((i,0)::r) G a w:=
 ⟨o,undef,ho,.inr ⟨hw,rfl⟩,hd▸h⟩
theorem WE.any {v:Value}(ho:ops[i]?=some o)(hd:o.dst=d)(hw:Region.wanted o (yielded ops a.tmps)=true)
 (hy:∀w',(execOp a.eval o).run P w'=.ok (.value v) w') (h:WE P ops Q A B r G (a.put d v) w):WE P ops Q A B ((i,5)::r) G a w:=
 ⟨o,v,ho,.inl ⟨hw,fun w' _=>hy w'⟩,hd▸h⟩
theorem WE.pass (ho:ops[i]?=some o)(hd:o.dst=d)(hw:Region.wanted o (yielded ops a.tmps)=false)
 (h:WE P ops Q A B r G (a.put d undef) w):WE P ops Q A B ((i,1)::r) G a w:=by
 subst hd;unfold WE wpOp;simp only[ho,hw,Bool.false_eq_true,if_false];exact⟨Ext.refl _,h⟩
theorem WE.call {f:FuncId}{args:Array Value}(ho:ops[i]?=some o)(hd:o.dst=d)(hw:Region.wanted o (yielded ops a.tmps)=true)
 (he:(execOp a.eval o).run P w=.ok (.enter f args) w)
 (hc:Calls P f args w fun e w'=>∃v,e=.returned v∧Ext w w'∧WE P ops Q A B r G (a.put d v) w'):WE P ops Q A B ((i,1)::r) G a w:=by
 subst hd;unfold WE wpOp;simp only[ho,hw,if_true];refine .inl ?_;unfold Oper.wp;rw[he];unfold Oper.upon;refine hc.mono ?_;rintro e w' ⟨v,rfl,hk,h⟩;exact⟨hk,h⟩
theorem WE.callR {f:FuncId}{args:Array Value}(ho:ops[i]?=some o)(hd:o.dst=d)(hw:Region.wanted o (yielded ops a.tmps)=true)
 (he:∀w,(execOp a.eval o).run P w=.ok (.enter f args) w)
 (hc:∀w1,Ext w w1→Calls P f args w1 fun e w'=>∃v,e=.returned v∧Ext w1 w'∧WE P ops Q A B r G (a.put d v) w'):WE P ops Q A B ((i,2)::r) G a w:=by
 subst hd;unfold WE;intro w1 hE;unfold wpOp;simp only[ho,hw,if_true];refine .inl ?_;unfold Oper.wp;rw[he];unfold Oper.upon;refine(hc w1 hE).mono ?_;rintro e w' ⟨v,rfl,hk,h⟩;exact⟨hk,h⟩
theorem WE.var (hd:dstAt ops i=d)(h:∀g w1,Ext w w1→Box w1 g (A i).2 (A i).1→B≤g→g∉G→WE P ops Q A B r (g::G) (a.put d (.pointer (some ⟨g,0,none⟩))) w1): WE P ops Q A B ((i,3)::r) G a w:=by
 subst hd;exact h
theorem WE.store {w':World}(ho:ops[i]?=some o)(hd:o.dst=none)(hw:Region.wanted o (yielded ops a.tmps)=true)
 (he:(execOp a.eval o).run P w=.ok .skip w') (hk:w.heap.size≤w'.heap.size) (h:WE P ops Q A B r G a w'):WE P ops Q A B ((i,4)::r) G a w:=by
 unfold WE wpOp;simp only[ho,hw,if_true];refine .inl ?_;unfold Oper.wp;rw[he];rw[Oper.upon_skip,hd];exact⟨hk,h⟩
theorem WE.store2 {g:Nat}{u v x y:Value}{t:TypeId}(ho:ops[i]?=some o)(hd:o.dst=none)(hw:Region.wanted o (yielded ops a.tmps)=true)
 (he:∀w,Box w g #[u,v] t→(execOp a.eval o).run P w=.ok .skip ((w.setCell ⟨g,0,none⟩ x).setCell ⟨g,1,none⟩ y)) (hb:Box w g #[u,v] t) (hno:noLimb #[u,v]=true)
 (h:∀w',Kept [g] w w'→Keeps w w'→Box w' g #[x,y] t→WE P ops Q A B r G a w'):WE P ops Q A B ((i,4)::r) G a w:=by
 have hk:=kept_set (w:=w) (g:=g) x y;exact WE.store ho hd hw (he w hb) hk.1.size (h _ hk (keeps_store hb hno hk) (hb.set2 x y))
theorem WE.storeAt {g off:Nat}{cs cs':Array Value}{y:Value}{t:TypeId}(ho:ops[i]?=some o)(hd:o.dst=none)(hw:Region.wanted o (yielded ops a.tmps)=true)
 (he:∀w,Box w g cs t→(execOp a.eval o).run P w=.ok .skip (w.setCell ⟨g,off,none⟩ y)) (hb:Box w g cs t) (hno:noLimb cs=true) (hcs:cs.setIfInBounds off y=cs')
 (h:∀w',Kept [g] w w'→Keeps w w'→Box w' g cs' t→WE P ops Q A B r G a w'):WE P ops Q A B ((i,4)::r) G a w:=by
 have hk:=kept_setAt (w:=w) (g:=g) (o:=off) y;exact WE.store ho hd hw (he w hb) hk.1.size (h _ hk (keeps_store hb hno hk) (hcs▸hb.setAt off y))
theorem WE.text:∀(plan:List (Nat×Nat)) (a:Act) (w:World),(plan.all fun x=>decide (x.2≤1)||decide (4≤x.2))=true→WE P ops Q A B plan [] a w→wpOps P ops Q (plan.map (·.1)) a w
 | [],_,_,_,h=>h
 | (i,0)::r,a,w,hk,⟨o,v,ho,hy,h⟩=>by
  simp only[List.map_cons];rw[wpOps_cons];exact YieldsIf.wpOp ho hy (Ext.refl _) (WE.text r _ w (by simpa using hk) h)
 | (i,k+5)::r,a,w,hk,⟨o,v,ho,hy,h⟩=>by
  simp only[List.map_cons];rw[wpOps_cons];exact YieldsIf.wpOp ho hy trivial (WE.text r _ w (by simp only[List.all_cons,Bool.and_eq_true] at hk;exact hk.2) h)
 | (i,1)::r,a,w,hk,h=>by
  simp only[List.map_cons];rw[wpOps_cons];exact wpOp_mono (fun a' w' h'=>WE.text r a' w' (by simpa using hk) h'.2) h
 | (i,4)::r,a,w,hk,h=>by
  simp only[List.map_cons];rw[wpOps_cons];exact wpOp_mono (fun a' w' h'=>WE.text r a' w' (by simpa using hk) h'.2) h
 | (i,2)::r,a,w,hk,h=>by simp at hk
 | (i,3)::r,a,w,hk,h=>by simp at hk
theorem wp_region_T {id:Nat}{a:Act}{w:World}(plan:List (Nat×Nat))
 (hp:((plan.all fun x=>decide (x.2≤1)||decide (4≤x.2))&&(plan.map (·.1)==List.range ops.size))=true)
 (h:∀wd,Ext w wd→WE P ops Q (fun _=>(0,#[])) wd.heap.size plan [] a wd):(Code.region id ops false).wp P Q a w:=by
 simp only[Bool.and_eq_true,beq_iff_eq] at hp;refine wp_region ?_;rw[←hp.2];exact WE.text plan a w hp.1 (h w (Ext.refl w))
theorem WE.act {v:Value}{w':World}(ho:ops[i]?=some o)(hd:o.dst=d)(hw:Region.wanted o (yielded ops a.tmps)=true)
 (he:(execOp a.eval o).run P w=.ok (.value v) w') (hk:Ext w w') (h:WE P ops Q A B r G (a.put d v) w'):WE P ops Q A B ((i,1)::r) G a w:=by
 subst hd;unfold WE wpOp;simp only[ho,hw,if_true];refine .inl ?_;unfold Oper.wp;rw[he];exact⟨hk,h⟩
theorem WE.new {cs:Array Value}{t:TypeId}{v:Nat→Value}(ho:ops[i]?=some o)(hd:o.dst=d)(hw:Region.wanted o (yielded ops a.tmps)=true)
 (he:∀w,(execOp a.eval o).run P w=.ok (.value (v w.heap.size)) (w.alloc (.cells cs t)))
 (h:∀g w',Ext w w'→Box w' g cs t→w.heap.size≤g→WE P ops Q A B r G (a.put d (v g)) w'):WE P ops Q A B ((i,1)::r) G a w:=
 WE.act ho hd hw (he w) (Ext.alloc _ _) (h _ _ (Ext.alloc _ _) (Box.new _ _ _) (Nat.le_refl _))
/- The regions' short words. -/
theorem wp_region_D {id:Nat}{a:Act}{w:World}(plan:List (Nat×Nat))(h:∀wd,Ext w wd→WE P ops Q (fun _=>(0,#[])) wd.heap.size plan [] a wd)(hm:P.follows .mixedOrders=true:=by exact rfl)
 (hp:(Region.noSelect ops&&planE ops (lates plan) plan (Array.replicate ops.size false)&&decide (need (fun _=>none) plan≤ops.size))=true:=by kernel_rfl)
 (hA:∀j∈pend plan,∃o,ops[j]?=some o∧AllocOf P o (0,#[]):=by intro j hj;cases hj)
 (hQ:∀c a d v w,Q (.panic c) (Act.put a d v) w↔Q (.panic c) a w:=by intro _ _ d _ _;cases d<;>exact Iff.rfl):(Code.region id ops true).wp P Q a w:=wp_region_E plan _ hm hp hA hQ h
theorem wp_region_L {id:Nat}{a:Act}{w:World}(plan:List (Nat×Nat))(T:TypeId)(cs:Array Value)(h:∀wd,Ext w wd→WE P ops Q (fun _=>(T,cs)) wd.heap.size plan [] a wd)(hm:P.follows .mixedOrders=true:=by exact rfl)
 (hp:(Region.noSelect ops&&planE ops (lates plan) plan (Array.replicate ops.size false)&&decide (need (fun _=>none) plan≤ops.size))=true:=by kernel_rfl)
 (hA:∀j∈pend plan,∃o,ops[j]?=some o∧AllocOf P o (T,cs):=by intro j hj;simp[pend] at hj;first|(obtain rfl:=hj;exact⟨_,rfl,rfl,rfl,fun w=>by go_simp⟩)|(rcases hj with rfl|rfl<;>exact⟨_,rfl,rfl,rfl,fun w=>by go_simp⟩))
 (hQ:∀c a d v w,Q (.panic c) (Act.put a d v) w↔Q (.panic c) a w:=by intro _ _ d _ _;cases d<;>exact Iff.rfl):(Code.region id ops true).wp P Q a w:=wp_region_E plan _ hm hp hA hQ h
theorem wp_region_S {id:Nat}{a:Act}{w:World}(plan:List (Nat×Nat))(h:∀wd,Ext w wd→WE P ops Q (fun _=>(0,#[])) wd.heap.size plan [] a wd)
 (hp:((plan.all fun x=>decide (x.2≤1)||decide (4≤x.2))&&(plan.map (·.1)==List.range ops.size))=true:=by kernel_rfl):(Code.region id ops false).wp P Q a w:=wp_region_T plan hp h
/- The steps' short words. -/
theorem WE.p (n:Nat)(v:Value)(h:WE P ops Q A B r G (a.put (some n) v) w)(ho:ops[i]?=some o:=by exact rfl)(hd:o.dst=some n:=by exact rfl)(hw:Region.wanted o (yielded ops a.tmps)=true:=by rfl)
 (hy:∀w',Ext w w'→(execOp a.eval o).run P w'=.ok (.value v) w':=by intro w' hk;go_simp):WE P ops Q A B ((i,0)::r) G a w:=WE.pure ho hd hw hy h
theorem WE.q (n:Nat)(v:Value){o:Oper}(ho:ops[i]?=some o)(hy:∀w',Ext w w'→(execOp a.eval o).run P w'=.ok (.value v) w')(h:WE P ops Q A B r G (a.put (some n) v) w)(hd:o.dst=some n:=by exact rfl)(hw:Region.wanted o (yielded ops a.tmps)=true:=by rfl):
 WE P ops Q A B ((i,0)::r) G a w:=WE.pure ho hd hw hy h
theorem WE.s (n:Nat)(h:WE P ops Q A B r G (a.put (some n) undef) w)(ho:ops[i]?=some o:=by exact rfl)(hd:o.dst=some n:=by exact rfl)(hw:Region.wanted o (yielded ops a.tmps)=false:=by rfl):
 WE P ops Q A B ((i,0)::r) G a w:=WE.skip ho hd hw h
theorem WE.t (n:Nat)(h:WE P ops Q A B r G (a.put (some n) undef) w)(ho:ops[i]?=some o:=by exact rfl)(hd:o.dst=some n:=by exact rfl)(hw:Region.wanted o (yielded ops a.tmps)=false:=by rfl):
 WE P ops Q A B ((i,1)::r) G a w:=WE.pass ho hd hw h
theorem WE.y (n:Nat)(v:Value)(h:WE P ops Q A B r G (a.put (some n) v) w)(ho:ops[i]?=some o:=by exact rfl)(hd:o.dst=some n:=by exact rfl)(hw:Region.wanted o (yielded ops a.tmps)=true:=by rfl)
 (hy:∀w',(execOp a.eval o).run P w'=.ok (.value v) w':=by intro w';go_simp):WE P ops Q A B ((i,5)::r) G a w:=WE.any ho hd hw hy h
theorem WE.c (n:Nat){f:FuncId}{args:Array Value}(hc:Calls P f args w fun e w'=>∃v,e=.returned v∧Ext w w'∧WE P ops Q A B r G (a.put (some n) v) w')(ho:ops[i]?=some o:=by exact rfl)(hd:o.dst=some n:=by exact rfl)
 (hw:Region.wanted o (yielded ops a.tmps)=true:=by rfl) (he:(execOp a.eval o).run P w=.ok (.enter f args) w:=by go_simp):WE P ops Q A B ((i,1)::r) G a w:=WE.call ho hd hw he hc
end
end Go.Proofs.YtoenjbkmiphhoaaGreatDoor
