/-
  Layer 10, the reference: lists of Sigs of the call's own.
-/
import Derived.Test.YtoenjbkmiphhoaaGreatDoorS17
namespace Go.Proofs.YtoenjbkmiphhoaaGreatDoor.Q
set_option linter.unusedSimpArgs false
set_option linter.unusedVariables false
open Go.RowKit
def SgC (w:World): List M.Sg→List Value→Prop
 | [],xs=>xs=[]
 | s::r,xs=>∃A n c ys,xs=str s.name::.slice A n c::.int .i64 s.ret::ys∧Ints w s.args (.slice A n c)∧SgC w r ys
theorem SgC.up {w w':World}(e:Ext w w'): ∀{l:List M.Sg} {xs:List Value},SgC w l xs→SgC w' l xs
 | [],_,h=>h
 | s::r,_,⟨A,n,c,ys,h1,h2,h3⟩=>⟨A,n,c,ys,h1,h2.up e,SgC.up e h3⟩
theorem SgC.len {w:World}: ∀{l:List M.Sg} {xs:List Value},SgC w l xs→xs.length=l.length*3
 | [],_,h=>by rw[show _=[] from h];rfl
 | s::r,_,⟨A,n,c,ys,h1,h2,h3⟩=>by
  have:=SgC.len h3
  rw[h1];simp;omega
theorem SgC.app {w:World}: ∀{l l':List M.Sg} {xs ys:List Value},SgC w l xs→SgC w l' ys→SgC w (l++l') (xs++ys)
 | [],_,_,_,h,h'=>by rw[show _=[] from h];exact h'
 | s::r,_,_,_,⟨A,n,c,zs,h1,h2,h3⟩,h'=>⟨A,n,c,_,by rw[h1];rfl,h2,SgC.app h3 h'⟩
theorem SgC.get {w:World}: ∀{l:List M.Sg} {xs:List Value},SgC w l xs→∀(k:Nat) (s:M.Sg),l[k]?=some s→∃A n c,xs[k*3]?=some (str s.name)∧xs[k*3+1]?=some (.slice A n c)∧xs[k*3+2]?=some (.int .i64 s.ret)∧Ints w s.args (.slice A n c)
 | [],_,_,_,_,hk=>by simp at hk
 | s::r,_,⟨A,n,c,ys,h1,h2,h3⟩,0,t,hk=>by
  simp at hk
  subst hk h1
  exact⟨A,n,c,rfl,rfl,rfl,h2⟩
 | s::r,_,⟨A,n,c,ys,h1,h2,h3⟩,k+1,t,hk=>by
  obtain⟨A',n',c',g1,g2,g3,g4⟩:=SgC.get h3 k t (by simpa using hk)
  subst h1
  refine⟨A',n',c',?_,?_,?_,g4⟩
  ·rw[show (k+1)*3=k*3+1+1+1 by omega];simpa using g1
  ·rw[show (k+1)*3+1=(k*3+1)+1+1+1 by omega];simpa using g2
  ·rw[show (k+1)*3+2=(k*3+2)+1+1+1 by omega];simpa using g3
theorem SgC.of {w:World}{ad:Addr}: ∀(l:List M.Sg) (j:Nat),(∀(k:Nat) (s:M.Sg),l[k]?=some s→SgAt w s (ad.add ((j+k)*3)))→∃xs,SgC w l xs∧∀(i:Nat) (u:Value),xs[i]?=some u→w.cell? (ad.add (j*3+i))=some u
 | [],j,_=>⟨[],rfl,fun i u h=>by simp at h⟩
 | s::r,j,h=>by
  obtain⟨ys,hy,hc⟩:=SgC.of (ad:=ad) r (j+1) (fun k t hk=>by
   have:=h (k+1) t (by simpa using hk)
   rwa [show (j+(k+1))*3=(j+1+k)*3 by omega] at this)
  obtain⟨A,n,c,⟨h0,h1,h2⟩,h3⟩:=h 0 s rfl
  rw[Addr.add_add] at h1 h2
  refine⟨_,⟨A,n,c,ys,rfl,h3,hy⟩,fun i u hi=>?_⟩
  match i,hi with
  | 0,hi=>simp at hi;subst hi;exact h0
  | 1,hi=>simp at hi;subst hi;exact h1
  | 2,hi=>simp at hi;subst hi;exact h2
  | i+3,hi=>
   have:=hc i u (by simpa using hi)
   rwa [show (j+1)*3+i=j*3+(i+3) by omega] at this
def OwnS (W w:World)(v:Value)(l:List M.Sg): Prop:=∃xs,w.ownsRow W.heap.size 62 3 v l.length xs∧SgC W l xs
theorem OwnS.nil (W w:World): OwnS W w (.slice none 0 0) []:=⟨[],World.ownsRow_nil w _ _ 3,rfl⟩
theorem OwnS.frame {W w w':World}{v:Value}{l:List M.Sg}(h:OwnS W w v l)(hb:∀b,W.heap.size≤b→b<w.heap.size→w'.heap[b]?=w.heap[b]?): OwnS W w' v l:=by
 obtain⟨xs,h1,h2⟩:=h
 exact⟨xs,kframe h1 hb,h2⟩
theorem OwnS.up {W w w':World}{v:Value}{l:List M.Sg}(h:OwnS W w v l)(e:Ext w w'): OwnS W w' v l:=h.frame fun b _ hb=>e.block b hb
theorem OwnS.base {W w:World}{v:Value}{l:List M.Sg}(h:OwnS W w v l): ∀b,b∈v.ownBlock.toList→W.heap.size≤b:=by
 obtain⟨xs,h1,_⟩:=h
 exact fun b hb=>kown_base h1 hb
def SgSrc (W w:World)(l:List M.Sg)(A:Option Addr)(n:Nat): Prop:=n=l.length∧∃xs,SgC W l xs∧(l≠[]→∃ad,A=some ad∧∀(i:Nat) (u:Value),xs[i]?=some u→w.cell? (ad.add i)=some u)
theorem Sgs.src {W w:World}{l:List M.Sg}{A:Option Addr}{n c:Nat}(h:Sgs W l (.slice A n c))(hk:∀(a:Addr) (u:Value),W.cell? a=some u→w.cell? a=some u): SgSrc W w l A n:=by
 obtain⟨A',n',c',e,h2,h3,h4,h5⟩:=h
 injection e with e1 e2 e3
 subst e1 e2 e3
 refine⟨h2,?_⟩
 by_cases hne:l=[]
 ·subst hne
  exact⟨[],rfl,fun h=>absurd rfl h⟩
 obtain⟨ad,ha,hb,hc⟩:=h5 hne
 obtain⟨xs,hx,hcell⟩:=SgC.of (ad:=ad) l 0 (fun k s hk=>by rw[Nat.zero_add];exact hc k s hk)
 exact⟨xs,hx,fun _=>⟨ad,ha,fun i u hi=>hk _ _ (by have:=hcell i u hi;rwa [Nat.zero_mul,Nat.zero_add] at this)⟩⟩
theorem Sgs.to_ {w:World}{l:List M.Sg}{A:Option Addr}{n c k:Nat}(h:Sgs w l (.slice A n c))(hk:k≤n): Sgs w (l.take k) (.slice (if c=0 then A else A.map (·.add (0*3))) k c):=by
 obtain⟨A',n',c',e,h2,h3,h4,h5⟩:=h
 injection e with e1 e2 e3
 subst e1 e2 e3
 refine⟨_,_,_,rfl,by rw[List.length_take];omega,by omega,h4,fun hne=>?_⟩
 obtain⟨ad,ha,hb,hc⟩:=h5 (by intro e;subst e;simp at hne)
 have hc0:c≠0:=by
  intro e
  apply hne
  apply List.eq_nil_of_length_eq_zero
  rw[List.length_take];omega
 rw[if_neg hc0,ha]
 refine⟨_,rfl,hb,fun j s hj=>?_⟩
 rw[List.getElem?_take] at hj
 split at hj
 ·have:=hc j s hj
  rwa [Addr.add_add,Nat.zero_mul,Nat.zero_add]
 ·cases hj
theorem Sgs.from_ {w:World}{l:List M.Sg}{A:Option Addr}{n c k:Nat}(h:Sgs w l (.slice A n c))(hk:k≤n): Sgs w (l.drop k) (.slice (if c=k then A else A.map (·.add (k*3))) (n-k) (c-k)):=by
 obtain⟨A',n',c',e,h2,h3,h4,h5⟩:=h
 injection e with e1 e2 e3
 subst e1 e2 e3
 refine⟨_,_,_,rfl,by rw[List.length_drop];omega,by omega,by omega,fun hne=>?_⟩
 obtain⟨ad,ha,hb,hc⟩:=h5 (by intro e;subst e;simp at hne)
 have hc0:c≠k:=by
  intro e
  apply hne
  apply List.eq_nil_of_length_eq_zero
  rw[List.length_drop];omega
 rw[if_neg hc0,ha]
 refine⟨_,rfl,by show (ad.add (k*3)).block<_;unfold Addr.add;split<;>exact hb,fun j s hj=>?_⟩
 rw[List.getElem?_drop] at hj
 have:=hc _ s hj
 rwa [Addr.add_add,←Nat.add_mul]
namespace M
def kPre (nm:List UInt8)(l:List Sg)(k:Nat): Prop:=∀(j:Nat) (x:Sg),j<k→l[j]?=some x→Go.Op.bytesLess x.name nm=true
end M
section
variable {P:Program} {ops:Array Oper} {Q:Exit→Act→World→Prop}
def WF (P:Program)(ops:Array Oper)(Q:Exit→Act→World→Prop)(X:List Nat)(i j:Nat)(rest:List (Nat×Nat)): List (Nat×Nat)→Act→World→Prop
 | [],a,w=>wpOp P ops Q i (fun a1 w1=>Kept X w w1∧wpOp P ops Q j (fun a2 w2=>Kept X w1 w2∧WK P ops Q X rest a2 w2) a1 w1) a w ∧
  wpOp P ops Q j (fun a1 w1=>Kept X w w1∧wpOp P ops Q i (fun a2 w2=>Kept X w1 w2∧WK P ops Q X rest a2 w2) a1 w1) a w
 | (k,0)::r,a,w=>∃o v,ops[k]?=some o∧YieldsIf P ops (fun w'=>Kept X w w') o v a∧WF P ops Q X i j rest r (a.put o.dst v) w
 | (k,_+1)::r,a,w=>∃o v,ops[k]?=some o∧YieldsIf P ops (fun _=>True) o v a∧WF P ops Q X i j rest r (a.put o.dst v) w
def planF (ops:Array Oper)(late:List Nat)(i j:Nat)(rest:List (Nat×Nat)): List (Nat×Nat)→Array Bool→Bool
 | [],l=>(Region.ready .any ops l==[i,j])&&((Region.ready .any ops (l.setIfInBounds i true)==[j])&&((Region.ready .any ops (l.setIfInBounds j true)==[i])&&(planK ops late rest ((l.setIfInBounds i true).setIfInBounds j true)&&planK ops late rest ((l.setIfInBounds j true).setIfInBounds i true))))
 | (k,m)::r,l=>(Region.ready .any ops l).contains k&&(planF ops late i j rest r (l.setIfInBounds k true)&&(match m with
  | 0=>Region.free .any ops l k&&late.all (fun j=>(cover ops 6 (predsD ops j)).contains k)
  | _+1=>Region.free .any ops l k))
theorem WF.sound {X:List Nat}{late:List Nat}{i j:Nat}{rest:List (Nat×Nat)}(hs:Region.noSelect ops=true)(hQ:∀c a d v w,Q (.panic c) (Act.put a d v) w↔Q (.panic c) a w): ∀(plan:List (Nat×Nat)) (fuel:Nat) (listed:Array Bool) (a:Act) (w:World),
 plan.length+2+rest.length≤fuel→planF ops late i j rest plan listed=true→DC ops listed→WF P ops Q X i j rest plan a w→wpK P ops Q X late fuel listed a w
 | [],f,listed,a,w,hf,hp,hdc,h=>by
  simp only[planF,Bool.and_eq_true] at hp
  obtain⟨h1,h2,h3,h4,h5⟩:=hp
  have g1:Region.ready .any ops listed=[i,j]:=by simpa using h1
  have g2:Region.ready .any ops (listed.setIfInBounds i true)=[j]:=by simpa using h2
  have g3:Region.ready .any ops (listed.setIfInBounds j true)=[i]:=by simpa using h3
  have hf':[].length+2+rest.length≤f:=hf
  obtain⟨f,rfl⟩:∃f',f=f'+2:=⟨f-2,by simp at hf';omega⟩
  have hfr:rest.length≤f:=by simp at hf';omega
  refine⟨fun h0=>absurd h0 (by rw[g1];simp),fun k hk=>?_⟩
  have hk':=hk
  rw[g1] at hk'
  simp only[List.mem_cons,List.not_mem_nil,or_false] at hk'
  rcases hk' with rfl|rfl
  ·refine wpOp_mono (fun a1 w1 hh=>⟨.inr hh.1,⟨fun h0=>absurd h0 (by rw[g2];simp),fun k2 hk2=>?_⟩⟩) h.1
   have hk2':=hk2
   rw[g2] at hk2'
   obtain rfl:k2=j:=by simpa using hk2'
   exact wpOp_mono (fun a2 w2 h2=>⟨.inr h2.1,WK.sound hs hQ rest f _ a2 w2 hfr h4 ((hdc.set_ hk).set_ hk2) h2.2⟩) hh.2
  ·refine wpOp_mono (fun a1 w1 hh=>⟨.inr hh.1,⟨fun h0=>absurd h0 (by rw[g3];simp),fun k2 hk2=>?_⟩⟩) h.2
   have hk2':=hk2
   rw[g3] at hk2'
   obtain rfl:k2=i:=by simpa using hk2'
   exact wpOp_mono (fun a2 w2 h2=>⟨.inr h2.1,WK.sound hs hQ rest f _ a2 w2 hfr h5 ((hdc.set_ hk).set_ hk2) h2.2⟩) hh.2
 | (k,m)::r,0,listed,a,w,hf,_,_,_=>by simp at hf
 | (k,m)::r,f+1,listed,a,w,hf,hp,hdc,h=>by
  simp only[planF,Bool.and_eq_true] at hp
  obtain⟨h0,h4,h5⟩:=hp
  have hri:k∈Region.ready .any ops listed:=by simpa using h0
  have hf':r.length+2+rest.length≤f:=by simp at hf;omega
  match m,h,h5 with
  | 0,h,h5=>
   obtain⟨o,v,ho,hy,h⟩:=h
   simp only[Bool.and_eq_true] at h5
   exact wpK_first (wl:=false) ho (Region.noSelect_spec hs) (fun c a w=>(hQ c a _ _ w).1) (.inr fun j hj=>by
    have:=List.all_eq_true.1 h5.2 j hj
    simpa using this) f listed a w hdc (Region.free_spec ho h5.1) hri (YieldsIf.weaken hy (fun w'' h''=>h''.resolve_left (by simp))) (WF.sound hs hQ r f _ _ w hf' h4 (hdc.set_ hri) h)
  | _+1,h,h5=>
   obtain⟨o,v,ho,hy,h⟩:=h
   exact wpK_first (wl:=true) ho (Region.noSelect_spec hs) (fun c a w=>(hQ c a _ _ w).1) (.inl rfl) f listed a w hdc (Region.free_spec ho h5) hri (YieldsIf.weaken hy (fun w'' _=>trivial)) (WF.sound hs hQ r f _ _ w hf' h4 (hdc.set_ hri) h)
variable {X:List Nat} {i j k:Nat} {r rest:List (Nat×Nat)} {a:Act} {w:World}
theorem WF.q (n:Nat)(v:Value){o:Oper}(ho:ops[k]?=some o)(hy:∀w',Kept X w w'→(execOp a.eval o).run P w'=.ok (.value v) w')(h:WF P ops Q X i j rest r (a.put (some n) v) w)(hd:o.dst=some n:=by exact rfl)(hw:Region.wanted o (yielded ops a.tmps)=true:=by rfl):
 WF P ops Q X i j rest ((k,0)::r) a w:=⟨o,v,ho,.inl ⟨hw,hy⟩,by rw[hd];exact h⟩
theorem WF.y (n:Nat)(v:Value)(h:WF P ops Q X i j rest r (a.put (some n) v) w){o:Oper}(ho:ops[k]?=some o:=by exact rfl)(hd:o.dst=some n:=by exact rfl)(hw:Region.wanted o (yielded ops a.tmps)=true:=by rfl)
 (hy:∀w',(execOp a.eval o).run P w'=.ok (.value v) w':=by intro w';go_simp):WF P ops Q X i j rest ((k,1)::r) a w:=⟨o,v,ho,.inl ⟨hw,fun w' _=>hy w'⟩,by rw[hd];exact h⟩
end
end Go.Proofs.YtoenjbkmiphhoaaGreatDoor.Q
