/-
  A region that draws its order, walked along one plan (XHeld without its words on limbs): loads and arithmetic as soon as they may come up, all that acts in the one order that is left.
-/
import Derived.Test.YtoenjbkmiphhoaaGreatDoorA12
import Derived.OrdersHeld
import Derived.Maps.AppendAt
namespace Go.Proofs.YtoenjbkmiphhoaaGreatDoor.Q
set_option linter.unusedSimpArgs false
set_option linter.unusedVariables false
open Go.RowKit
/- the three rules that a step's slot is laid by -/
section
variable {P:Program} {ops:Array Oper} {Q:Exit→Act→World→Prop}
/- lists of what has come up -/
/- the variables' slots -/
/- one operation beside a slot that it doesn't look at -/
end
section
variable {P:Program} {ops:Array Oper} {Q:Exit→Act→World→Prop}
variable {A:Nat→TypeId×Array Value} {B:Nat} {G:List Nat} {i:Nat} {r:List (Nat×Nat)} {a:Act} {w:World} {o:Oper} {d:Option Tmp}
/- The regions' short words. -/
/- The steps' short words. -/
end
section
variable {P:Program} {ops:Array Oper} {Q:Exit→Act→World→Prop}
def wpK (P:Program)(ops:Array Oper)(Q:Exit→Act→World→Prop)(X:List Nat)(late:List Nat): Nat→Array Bool→Act→World→Prop
 | 0,listed,a,w=>Region.ready .any ops listed=[]∧Q .normal a w
 | fuel+1,listed,a,w=>
  (Region.ready .any ops listed=[]→Q .normal a w) ∧
  ∀i∈Region.ready .any ops listed,wpOp P ops Q i (fun a' w'=>(i∈late∨Kept X w w')∧wpK P ops Q X late fuel (listed.setIfInBounds i true) a' w') a w
theorem wpAny_of_K {X:List Nat}{late:List Nat}: ∀(fuel:Nat) (listed:Array Bool) (a:Act) (w:World),wpK P ops Q X late fuel listed a w→wpAny P .any ops Q fuel listed a w
 | 0,_,_,_,h=>h
 | fuel+1,_,_,_,h=>⟨h.1,fun i hi=>wpOp_mono (fun a' w' h'=>wpAny_of_K fuel _ a' w' h'.2) (h.2 i hi)⟩
theorem wpK_first {X:List Nat}{late:List Nat}{wl:Bool}{i:Nat}{oi:Oper}{v:Value}(hi:ops[i]?=some oi)(hsel:∀(j:Nat) (o:Oper) cs b,ops[j]?=some o→o.op≠.select cs b)
 (hQ:∀c a w,Q (.panic c) (a.put oi.dst v) w→Q (.panic c) a w) (hlate:wl=true∨∀j∈late,i∈cover ops 6 (predsD ops j)) :
 ∀(fuel:Nat) (listed:Array Bool) (a:Act) (w:World),DC ops listed →
  (∀j oj,ops[j]?=some oj→j≠i→listed.getD j true=false→(∀e∈oj.after,Region.binds .any e=true→e.on≠i)→oi.apart ops oj=true) →
  i∈Region.ready .any ops listed→YieldsIf P ops (fun w'=>wl=true∨Kept X w w') oi v a →
  wpK P ops Q X late fuel (listed.setIfInBounds i true) (a.put oi.dst v) w→wpK P ops Q X late (fuel+1) listed a w:=by
 intro fuel
 induction fuel with
 | zero=>
  intro listed a w _ _ hr hy H;refine⟨fun h=>(by rw[h] at hr;cases hr),fun j hj=>?_⟩
  by_cases hji:j=i
  ·subst hji;exact hy.wpOp hi (.inr (Kept.refl X w)) ⟨.inr (Kept.refl X w),H⟩
  ·have:=ready_mono hj hji;rw[H.1] at this;cases this
 | succ fuel ih=>
  intro listed a w hdc hfree hr hy H;refine⟨fun h=>(by rw[h] at hr;cases hr),fun j hj=>?_⟩
  by_cases hji:j=i
  ·subst hji;exact hy.wpOp hi (.inr (Kept.refl X w)) ⟨.inr (Kept.refl X w),H⟩
  ·have h1:=H.2 j (ready_mono hj hji);obtain⟨hjun,oj,hoj,hall⟩:=mem_ready.1 hj;have hiun:=(mem_ready.1 hr).1;have hnot:∀e∈oj.after,Region.binds .any e=true→e.on≠i:=fun e he hb heq=>by
    have h1:=hall e he hb;have h0:=hiun;rw[heq] at h1;rcases Nat.lt_or_ge i listed.size with h'|h'
    ·simp[h'] at h0 h1;rw[h0] at h1;cases h1
    ·simp[Array.getElem?_eq_none h'] at h1
   have h2:=wpOp_putIf hoj (hfree j oj hoj hji hjun hnot) (fun cs b=>hsel i oi cs b hi) (fun cs b=>hsel j oj cs b hoj) hQ hy h1
   have hfree':∀k ok,ops[k]?=some ok→k≠i→(listed.setIfInBounds j true).getD k true=false →
    (∀e∈ok.after,Region.binds .any e=true→e.on≠i)→oi.apart ops ok=true:=fun k ok hk hki hun hno=>by
    refine hfree k ok hk hki ?_ hno
    by_cases hjk:j=k
    ·subst hjk;exact hjun
    ·rw[getD_set_ne true hjk] at hun;exact hun
   refine wpOp_mono (fun a' w' h3=>⟨h3.2.1,ih (listed.setIfInBounds j true) a' w' (hdc.set_ hj) hfree' (ready_mono hr (Ne.symm hji)) ?_ ?_⟩) h2
   ·refine h3.1.imp (fun⟨hw,hv⟩=>⟨hw,fun w'' hs=>hv w'' ?_⟩) id;rcases hlate with hl|hl
    ·exact .inl hl
    ·rcases h3.2.1 with hlj|he
     ·exact absurd hiun (on_of_late hdc hj (hl j hlj))
     ·exact hs.imp id (fun h=>he.trans h)
   ·rw[Array.setIfInBounds_comm _ _ hji];exact h3.2.2
def WK (P:Program)(ops:Array Oper)(Q:Exit→Act→World→Prop)(X:List Nat): List (Nat×Nat)→Act→World→Prop
 | [],a,w=>Q .normal a w
 | (i,0)::r,a,w=>∃o v,ops[i]?=some o∧YieldsIf P ops (fun w'=>Kept X w w') o v a∧WK P ops Q X r (a.put o.dst v) w
 | (i,1)::r,a,w=>wpOp P ops Q i (fun a' w'=>Kept X w w'∧WK P ops Q X r a' w') a w
 | (i,2)::r,a,w=>∃o v,ops[i]?=some o∧YieldsIf P ops (fun _=>True) o v a∧WK P ops Q X r (a.put o.dst v) w
 | (i,_+3)::r,a,w=>wpOp P ops Q i (fun a' w'=>WK P ops Q X r a' w') a w
def latesK:List (Nat×Nat)→List Nat
 | []=>[]
 | (i,k)::r=>if 3≤k then i::latesK r else latesK r
def planK (ops:Array Oper)(late:List Nat): List (Nat×Nat)→Array Bool→Bool
 | [],l=>(Region.ready .any ops l).isEmpty
 | (i,k)::r,l=>(Region.ready .any ops l).contains i&&(planK ops late r (l.setIfInBounds i true)&&(match k with
  | 0=>Region.free .any ops l i&&late.all (fun j=>(cover ops 6 (predsD ops j)).contains i)
  | 1=>Region.ready .any ops l==[i]
  | 2=>Region.free .any ops l i
  | _+3=>(Region.ready .any ops l==[i])&&late.contains i))
theorem WK.sound {X:List Nat}{late:List Nat}(hs:Region.noSelect ops=true)(hQ:∀c a d v w,Q (.panic c) (Act.put a d v) w↔Q (.panic c) a w): ∀(plan:List (Nat×Nat)) (fuel:Nat) (listed:Array Bool) (a:Act) (w:World),
 plan.length≤fuel→planK ops late plan listed=true→DC ops listed→WK P ops Q X plan a w→wpK P ops Q X late fuel listed a w
 | [],0,listed,a,w,_,hp,_,h=>⟨by simpa [planK] using hp,h⟩
 | [],f+1,listed,a,w,_,hp,_,h=>by
  have hr:Region.ready .any ops listed=[]:=by simpa [planK] using hp
  exact⟨fun _=>h,fun i hi=>(by rw[hr] at hi;cases hi)⟩
 | (i,k)::r,0,listed,a,w,hf,_,_,_=>by simp at hf
 | (i,k)::r,f+1,listed,a,w,hf,hp,hdc,h=>by
  simp only[planK,Bool.and_eq_true] at hp;obtain⟨h0,h4,h5⟩:=hp;have hri:i∈Region.ready .any ops listed:=by simpa using h0
  have hf':r.length≤f:=by simpa using hf
  match k,h,h5 with
  | 0,h,h5=>
   obtain⟨o,v,ho,hy,h⟩:=h;simp only[Bool.and_eq_true] at h5;exact wpK_first (wl:=false) ho (Region.noSelect_spec hs) (fun c a w=>(hQ c a _ _ w).1) (.inr fun j hj=>by
    have:=List.all_eq_true.1 h5.2 j hj;simpa using this) f listed a w hdc (Region.free_spec ho h5.1) hri (YieldsIf.weaken hy (fun w'' h''=>h''.resolve_left (by simp))) (WK.sound hs hQ r f _ _ w hf' h4 (hdc.set_ hri) h)
  | 1,h,h5=>
   have h6:Region.ready .any ops listed=[i]:=by simpa using h5
   refine⟨fun h0=>absurd hri (by rw[h0];simp),fun j hj=>?_⟩;have hj':=hj;rw[h6] at hj';obtain rfl:j=i:=by simpa using hj'
   exact wpOp_mono (fun a' w' hk=>⟨.inr hk.1,WK.sound hs hQ r f _ a' w' hf' h4 (hdc.set_ hj) hk.2⟩) h
  | 2,h,h5=>
   obtain⟨o,v,ho,hy,h⟩:=h;exact wpK_first (wl:=true) ho (Region.noSelect_spec hs) (fun c a w=>(hQ c a _ _ w).1) (.inl rfl) f listed a w hdc (Region.free_spec ho h5) hri (YieldsIf.weaken hy (fun w'' _=>trivial)) (WK.sound hs hQ r f _ _ w hf' h4 (hdc.set_ hri) h)
  | k+3,h,h5=>
   simp only[Bool.and_eq_true] at h5;have h6:Region.ready .any ops listed=[i]:=by simpa using h5.1
   have hil:i∈late:=by simpa using h5.2
   refine⟨fun h0=>absurd hri (by rw[h0];simp),fun j hj=>?_⟩;have hj':=hj;rw[h6] at hj';obtain rfl:j=i:=by simpa using hj'
   exact wpOp_mono (fun a' w' hk=>⟨.inl hil,WK.sound hs hQ r f _ a' w' hf' h4 (hdc.set_ hj) hk⟩) h
theorem wp_region_K {id:Nat}{a:Act}{w:World}(X:List Nat)(plan:List (Nat×Nat))(h:∀wd,Ext w wd→WK P ops Q X plan a wd)(hm:P.follows .mixedOrders=true:=by exact rfl)
 (hp:(Region.noSelect ops&&(planK ops (latesK plan) plan (Array.replicate ops.size false)&&decide (plan.length≤ops.size)))=true:=by kernel_rfl)
 (hQ:∀c a d v w,Q (.panic c) (Act.put a d v) w↔Q (.panic c) a w:=by intro _ _ d _ _;cases d<;>exact Iff.rfl):(Code.region id ops true).wp P Q a w:=by
 simp only[Bool.and_eq_true,decide_eq_true_eq] at hp;have hdc:DC ops (Array.replicate ops.size false):=by
  intro k hk;exfalso;rcases Nat.lt_or_ge k ops.size with h'|h'
  ·simp[h'] at hk
  ·rw[Array.getD_eq_getD_getElem?,Array.getElem?_eq_none (by simpa using h')] at hk;cases hk
 exact wp_region_any hm (wpAny_of_K _ _ _ _ (WK.sound hp.1 hQ plan ops.size _ a { w with drawn:=w.drawn+1 } hp.2.2 hp.2.1 hdc (h _ (Below.drew (Below.refl _ _)))))
variable {X:List Nat} {i:Nat} {r:List (Nat×Nat)} {a:Act} {w:World}
theorem WK.done (h:Q .normal a w): WK P ops Q X [] a w:=h
theorem WK.q (n:Nat)(v:Value){o:Oper}(ho:ops[i]?=some o)(hy:∀w',Kept X w w'→(execOp a.eval o).run P w'=.ok (.value v) w')(h:WK P ops Q X r (a.put (some n) v) w)(hd:o.dst=some n:=by exact rfl)(hw:Region.wanted o (yielded ops a.tmps)=true:=by rfl):
 WK P ops Q X ((i,0)::r) a w:=⟨o,v,ho,.inl ⟨hw,hy⟩,by rw[hd];exact h⟩
theorem WK.p (n:Nat)(v:Value)(h:WK P ops Q X r (a.put (some n) v) w){o:Oper}(ho:ops[i]?=some o:=by exact rfl)(hd:o.dst=some n:=by exact rfl)(hw:Region.wanted o (yielded ops a.tmps)=true:=by rfl)
 (hy:∀w',Kept X w w'→(execOp a.eval o).run P w'=.ok (.value v) w':=by intro w' hk;go_simp):WK P ops Q X ((i,0)::r) a w:=WK.q n v ho hy h hd hw
theorem WK.y (n:Nat)(v:Value)(h:WK P ops Q X r (a.put (some n) v) w){o:Oper}(ho:ops[i]?=some o:=by exact rfl)(hd:o.dst=some n:=by exact rfl)(hw:Region.wanted o (yielded ops a.tmps)=true:=by rfl)
 (hy:∀w',(execOp a.eval o).run P w'=.ok (.value v) w':=by intro w';go_simp):WK P ops Q X ((i,2)::r) a w:=⟨o,v,ho,.inl ⟨hw,fun w' _=>hy w'⟩,by rw[hd];exact h⟩
theorem WK.c (n:Nat){f:FuncId}{args:Array Value}(hc:Calls P f args w fun e w'=>∃v,e=.returned v∧Kept X w w'∧WK P ops Q X r (a.put (some n) v) w'){o:Oper}(ho:ops[i]?=some o:=by exact rfl)(hd:o.dst=some n:=by exact rfl)
 (hw:Region.wanted o (yielded ops a.tmps)=true:=by rfl) (he:(execOp a.eval o).run P w=.ok (.enter f args) w:=by go_simp):WK P ops Q X ((i,1)::r) a w:=by
 unfold WK wpOp;simp only[ho,hw,if_true];refine .inl ?_;unfold Oper.wp;rw[he];unfold Oper.upon;refine hc.mono ?_;rintro e w' ⟨v,rfl,hk,h⟩;rw[←hd] at h;exact⟨hk,h⟩
theorem WK.act (n:Nat){v:Value}{w':World}{o:Oper}(ho:ops[i]?=some o)(he:(execOp a.eval o).run P w=.ok (.value v) w')(hk:Kept X w w')(h:WK P ops Q X r (a.put (some n) v) w')(hd:o.dst=some n:=by exact rfl)
 (hw:Region.wanted o (yielded ops a.tmps)=true:=by rfl):WK P ops Q X ((i,1)::r) a w:=by
 rw[←hd] at h;unfold WK wpOp;simp only[ho,hw,if_true];refine .inl ?_;unfold Oper.wp;rw[he];exact⟨hk,h⟩
theorem WK.late (n:Nat){v:Value}{w':World}{o:Oper}(ho:ops[i]?=some o)(he:(execOp a.eval o).run P w=.ok (.value v) w')(h:WK P ops Q X r (a.put (some n) v) w')(hd:o.dst=some n:=by exact rfl)
 (hw:Region.wanted o (yielded ops a.tmps)=true:=by rfl):WK P ops Q X ((i,3)::r) a w:=by
 rw[←hd] at h;unfold WK wpOp;simp only[ho,hw,if_true];refine .inl ?_;unfold Oper.wp;rw[he];exact h
theorem WK.st {w':World}(h:WK P ops Q X r a w'){o:Oper}(ho:ops[i]?=some o:=by exact rfl)(hd:o.dst=none:=by exact rfl)(hw:Region.wanted o (yielded ops a.tmps)=true:=by rfl)
 (he:(execOp a.eval o).run P w=.ok .skip w':=by go_simp):WK P ops Q X ((i,3)::r) a w:=by
 unfold WK wpOp;simp only[ho,hw,if_true];refine .inl ?_;unfold Oper.wp;rw[he];rw[Oper.upon_skip,hd];exact h
end
def gp (p:Nat→Prop)[DecidablePred p](w:World): World:={ w with heap:=w.heap.mapIdx fun i o=>if p i then o else .cells #[] 0 }
theorem gp_size (p:Nat→Prop)[DecidablePred p](w:World): (gp p w).heap.size=w.heap.size:=by simp[gp]
theorem gp_cell {p:Nat→Prop}[DecidablePred p]{w:World}{a:Addr}{v:Value}: (gp p w).cell? a=some v↔p a.block∧w.cell? a=some v:=by
 unfold World.cell? gp;simp only[Array.getElem?_mapIdx];rcases h:w.heap[a.block]? with _|o
 ·simp
 ·by_cases hp:p a.block
  ·simp[hp]
  ·simp[hp]
def Sub (w w':World): Prop:=w.heap.size≤w'.heap.size∧∀p v,w.cell? p=some v→w'.cell? p=some v
theorem Sub.refl (w:World): Sub w w:=⟨Nat.le_refl _,fun _ _ h=>h⟩
theorem Sub.trans {a b c:World}(h:Sub a b)(k:Sub b c): Sub a c:=⟨Nat.le_trans h.1 k.1,fun p v hc=>k.2 p v (h.2 p v hc)⟩
theorem _root_.Go.Proofs.YtoenjbkmiphhoaaGreatDoor.Ext.sub {w w':World}(h:Ext w w'): Sub w w':=⟨h.size,fun _ _ hc=>h.cell hc⟩
theorem gp_sub (p:Nat→Prop)[DecidablePred p](w:World): Sub (gp p w) w:=⟨by rw[gp_size];exact Nat.le_refl _,fun _ _ hc=>(gp_cell.1 hc).2⟩
theorem gp_mono {p q:Nat→Prop}[DecidablePred p][DecidablePred q]{w w':World}(hs:w.heap.size≤w'.heap.size)(h:∀k,k<w.heap.size→p k→q k∧w'.heap[k]?=w.heap[k]?): Sub (gp p w) (gp q w'):=by
 refine⟨by rw[gp_size,gp_size];exact hs,fun a v hc=>?_⟩;obtain⟨h1,h2⟩:=gp_cell.1 hc;obtain⟨h3,h4⟩:=h _ (World.block_lt_of_cell? w _ h2) h1;exact gp_cell.2 ⟨h3,by rw[←h2];exact World.cell?_of_block h4⟩
theorem _root_.Go.Proofs.YtoenjbkmiphhoaaGreatDoor.Ext.gp_new {p:Nat→Prop}[DecidablePred p]{w w':World}(h:Ext w w')(hp:∀k,k<w.heap.size→p k): Sub w (gp p w'):=by
 refine⟨by rw[gp_size];exact h.size,fun a v hc=>gp_cell.2 ⟨hp _ (World.block_lt_of_cell? w _ hc),h.cell hc⟩⟩
abbrev beside (base:Nat)(v:Value)(k:Nat): Prop:=base≤k∧v.ownBlock≠some k
inductive Route where
 | done:Route
 | pure:Nat→Route→Route
 | any:Nat→Route→Route
 | act:Nat→Route→Route
 | late:Nat→Route→Route
 | two:Nat→Route→Nat→Route→Route
 | three:Nat→Route→Nat→Route→Nat→Route→Route
def Route.depth:Route→Nat
 | .done=>0
 | .pure _ r=>r.depth+1
 | .any _ r=>r.depth+1
 | .act _ r=>r.depth+1
 | .late _ r=>r.depth+1
 | .two _ r _ s=>max r.depth s.depth+1
 | .three _ r _ s _ t=>max r.depth (max s.depth t.depth)+1
def Route.lates:Route→List Nat
 | .done=>[]
 | .pure _ r=>r.lates
 | .any _ r=>r.lates
 | .act _ r=>r.lates
 | .late i r=>i::r.lates
 | .two _ r _ s=>r.lates++s.lates
 | .three _ r _ s _ t=>r.lates++(s.lates++t.lates)
def Route.ok (ops:Array Oper)(late:List Nat): Route→Array Bool→Bool
 | .done,l=>(Region.ready .any ops l).isEmpty
 | .pure i r,l=>(Region.ready .any ops l).contains i&&(Region.free .any ops l i&&(late.all (fun j=>(cover ops 6 (predsD ops j)).contains i)&&r.ok ops late (l.setIfInBounds i true)))
 | .any i r,l=>(Region.ready .any ops l).contains i&&(Region.free .any ops l i&&r.ok ops late (l.setIfInBounds i true))
 | .act i r,l=>(Region.ready .any ops l==[i])&&r.ok ops late (l.setIfInBounds i true)
 | .late i r,l=>(Region.ready .any ops l==[i])&&(late.contains i&&r.ok ops late (l.setIfInBounds i true))
 | .two i r j s,l=>(Region.ready .any ops l==[i,j])&&(r.ok ops late (l.setIfInBounds i true)&&s.ok ops late (l.setIfInBounds j true))
 | .three i r j s k t,l=>(Region.ready .any ops l==[i,j,k])&&(r.ok ops late (l.setIfInBounds i true)&&(s.ok ops late (l.setIfInBounds j true)&&t.ok ops late (l.setIfInBounds k true)))
section
variable {P:Program} {ops:Array Oper} {Q:Exit→Act→World→Prop}
def WT (P:Program)(ops:Array Oper)(Q:Exit→Act→World→Prop): Route→Act→World→Prop
 | .done,a,w=>Q .normal a w
 | .pure i r,a,w=>∃o v,ops[i]?=some o∧YieldsIf P ops (fun w'=>Ext w w') o v a∧WT P ops Q r (a.put o.dst v) w
 | .any i r,a,w=>∃o v,ops[i]?=some o∧YieldsIf P ops (fun _=>True) o v a∧WT P ops Q r (a.put o.dst v) w
 | .act i r,a,w=>wpOp P ops Q i (fun a' w'=>Ext w w'∧WT P ops Q r a' w') a w
 | .late i r,a,w=>wpOp P ops Q i (fun a' w'=>WT P ops Q r a' w') a w
 | .two i r j s,a,w=>wpOp P ops Q i (fun a' w'=>Ext w w'∧WT P ops Q r a' w') a w∧wpOp P ops Q j (fun a' w'=>Ext w w'∧WT P ops Q s a' w') a w
 | .three i r j s k t,a,w=>wpOp P ops Q i (fun a' w'=>Ext w w'∧WT P ops Q r a' w') a w∧wpOp P ops Q j (fun a' w'=>Ext w w'∧WT P ops Q s a' w') a w∧wpOp P ops Q k (fun a' w'=>Ext w w'∧WT P ops Q t a' w') a w
theorem WT.sound {late:List Nat}(hs:Region.noSelect ops=true)(hQ:∀c a d v w,Q (.panic c) (Act.put a d v) w↔Q (.panic c) a w): ∀(r:Route) (fuel:Nat) (listed:Array Bool) (a:Act) (w:World),
 r.depth≤fuel→r.ok ops late listed=true→DC ops listed→WT P ops Q r a w→wpR P ops Q late fuel listed a w:=by
 intro r
 induction r with
 | done=>
  intro fuel listed a w _ hp _ h;have hr:Region.ready .any ops listed=[]:=by simpa [Route.ok] using hp
  cases fuel with
  | zero=>exact⟨hr,h⟩
  | succ f=>exact⟨fun _=>h,fun i hi=>(by rw[hr] at hi;cases hi)⟩
 | pure i r ih=>
  intro fuel listed a w hf hp hdc h;simp only[Route.ok,Bool.and_eq_true] at hp;obtain⟨h0,h1,h2,h3⟩:=hp;have hri:i∈Region.ready .any ops listed:=by simpa using h0
  obtain⟨o,v,ho,hy,h⟩:=h;simp only[Route.depth] at hf;obtain⟨f,rfl⟩:∃f,fuel=f+1:=⟨fuel-1,by omega⟩;exact wpR_first (wl:=false) ho (Region.noSelect_spec hs) (fun c a w=>(hQ c a _ _ w).1) (.inr fun j hj=>by
   have:=List.all_eq_true.1 h2 j hj;simpa using this) f listed a w hdc (Region.free_spec ho h1) hri (YieldsIf.weaken hy (fun w'' h''=>h''.resolve_left (by simp))) (ih f _ _ w (by omega) h3 (hdc.set_ hri) h)
 | any i r ih=>
  intro fuel listed a w hf hp hdc h;simp only[Route.ok,Bool.and_eq_true] at hp;obtain⟨h0,h1,h3⟩:=hp;have hri:i∈Region.ready .any ops listed:=by simpa using h0
  obtain⟨o,v,ho,hy,h⟩:=h;simp only[Route.depth] at hf;obtain⟨f,rfl⟩:∃f,fuel=f+1:=⟨fuel-1,by omega⟩;exact wpR_first (wl:=true) ho (Region.noSelect_spec hs) (fun c a w=>(hQ c a _ _ w).1) (.inl rfl) f listed a w hdc (Region.free_spec ho h1) hri (YieldsIf.weaken hy (fun w'' _=>trivial)) (ih f _ _ w (by omega) h3 (hdc.set_ hri) h)
 | act i r ih=>
  intro fuel listed a w hf hp hdc h;simp only[Route.ok,Bool.and_eq_true,beq_iff_eq] at hp;obtain⟨h0,h3⟩:=hp;simp only[Route.depth] at hf;obtain⟨f,rfl⟩:∃f,fuel=f+1:=⟨fuel-1,by omega⟩;refine⟨fun e=>absurd e (by rw[h0];simp),fun j hj=>?_⟩;have hj':=hj;rw[h0] at hj';obtain rfl:j=i:=by simpa using hj'
  exact wpOp_mono (fun a' w' hk=>⟨.inr hk.1,ih f _ a' w' (by omega) h3 (hdc.set_ hj) hk.2⟩) h
 | late i r ih=>
  intro fuel listed a w hf hp hdc h;simp only[Route.ok,Bool.and_eq_true,beq_iff_eq] at hp;obtain⟨h0,h1,h3⟩:=hp;simp only[Route.depth] at hf;obtain⟨f,rfl⟩:∃f,fuel=f+1:=⟨fuel-1,by omega⟩;have hil:i∈late:=by simpa using h1
  refine⟨fun e=>absurd e (by rw[h0];simp),fun j hj=>?_⟩;have hj':=hj;rw[h0] at hj';obtain rfl:j=i:=by simpa using hj'
  exact wpOp_mono (fun a' w' hk=>⟨.inl hil,ih f _ a' w' (by omega) h3 (hdc.set_ hj) hk⟩) h
 | two i r j s ihr ihs=>
  intro fuel listed a w hf hp hdc h;simp only[Route.ok,Bool.and_eq_true,beq_iff_eq] at hp;obtain⟨h0,h1,h2⟩:=hp;simp only[Route.depth] at hf;obtain⟨f,rfl⟩:∃f,fuel=f+1:=⟨fuel-1,by omega⟩;refine⟨fun e=>absurd e (by rw[h0];simp),fun k hk=>?_⟩;have hk':=hk;rw[h0] at hk';simp only[List.mem_cons,List.not_mem_nil,or_false] at hk';rcases hk' with rfl|rfl
  ·exact wpOp_mono (fun a' w' hk2=>⟨.inr hk2.1,ihr f _ a' w' (by omega) h1 (hdc.set_ hk) hk2.2⟩) h.1
  ·exact wpOp_mono (fun a' w' hk2=>⟨.inr hk2.1,ihs f _ a' w' (by omega) h2 (hdc.set_ hk) hk2.2⟩) h.2
 | three i r j s k t ihr ihs iht=>
  intro fuel listed a w hf hp hdc h;simp only[Route.ok,Bool.and_eq_true,beq_iff_eq] at hp;obtain⟨h0,h1,h2,h3⟩:=hp;simp only[Route.depth] at hf;obtain⟨f,rfl⟩:∃f,fuel=f+1:=⟨fuel-1,by omega⟩;refine⟨fun e=>absurd e (by rw[h0];simp),fun m hm=>?_⟩;have hm':=hm;rw[h0] at hm';simp only[List.mem_cons,List.not_mem_nil,or_false] at hm';rcases hm' with rfl|rfl|rfl
  ·exact wpOp_mono (fun a' w' hk2=>⟨.inr hk2.1,ihr f _ a' w' (by omega) h1 (hdc.set_ hm) hk2.2⟩) h.1
  ·exact wpOp_mono (fun a' w' hk2=>⟨.inr hk2.1,ihs f _ a' w' (by omega) h2 (hdc.set_ hm) hk2.2⟩) h.2.1
  ·exact wpOp_mono (fun a' w' hk2=>⟨.inr hk2.1,iht f _ a' w' (by omega) h3 (hdc.set_ hm) hk2.2⟩) h.2.2
variable {i n:Nat} {r:Route} {a:Act} {w:World}
theorem WT.q (n:Nat)(v:Value){o:Oper}(ho:ops[i]?=some o)(hy:∀w',Ext w w'→(execOp a.eval o).run P w'=.ok (.value v) w')(h:WT P ops Q r (a.put (some n) v) w)(hd:o.dst=some n:=by exact rfl)(hw:Region.wanted o (yielded ops a.tmps)=true:=by rfl):
 WT P ops Q (.pure i r) a w:=⟨o,v,ho,.inl ⟨hw,hy⟩,by rw[hd];exact h⟩
theorem WT.p (n:Nat)(v:Value)(h:WT P ops Q r (a.put (some n) v) w){o:Oper}(ho:ops[i]?=some o:=by exact rfl)(hd:o.dst=some n:=by exact rfl)(hw:Region.wanted o (yielded ops a.tmps)=true:=by rfl)
 (hy:∀w',Ext w w'→(execOp a.eval o).run P w'=.ok (.value v) w':=by intro w' hk;go_simp):WT P ops Q (.pure i r) a w:=WT.q n v ho hy h hd hw
theorem WT.y (n:Nat)(v:Value)(h:WT P ops Q r (a.put (some n) v) w){o:Oper}(ho:ops[i]?=some o:=by exact rfl)(hd:o.dst=some n:=by exact rfl)(hw:Region.wanted o (yielded ops a.tmps)=true:=by rfl)
 (hy:∀w',(execOp a.eval o).run P w'=.ok (.value v) w':=by intro w';go_simp):WT P ops Q (.any i r) a w:=⟨o,v,ho,.inl ⟨hw,fun w' _=>hy w'⟩,by rw[hd];exact h⟩
theorem WT.st {w':World}(h:WT P ops Q r a w'){o:Oper}(ho:ops[i]?=some o:=by exact rfl)(hd:o.dst=none:=by exact rfl)(hw:Region.wanted o (yielded ops a.tmps)=true:=by rfl)
 (he:(execOp a.eval o).run P w=.ok .skip w':=by go_simp):WT P ops Q (.late i r) a w:=by
 show wpOp P ops Q i (fun a' w'=>WT P ops Q r a' w') a w;unfold wpOp;simp only[ho,hw,if_true];refine .inl ?_;unfold Oper.wp;rw[he,Oper.upon_skip,hd];exact h
end
end Go.Proofs.YtoenjbkmiphhoaaGreatDoor.Q
