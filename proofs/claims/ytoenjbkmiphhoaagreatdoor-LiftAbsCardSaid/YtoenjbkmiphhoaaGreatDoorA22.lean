/-
  Layer 10, the reference: lists of Sigs of the call's own.
-/
import Derived.Test.YtoenjbkmiphhoaaGreatDoorA18
namespace Go.Proofs.YtoenjbkmiphhoaaGreatDoor.Q
set_option linter.unusedSimpArgs false
set_option linter.unusedVariables false
open Go.RowKit
def SgC (w:World): List M.Sg→List Value→Prop
 | [],xs=>xs=[]
 | s::r,xs=>∃A n c ys,xs=str s.name::.slice A n c::.int .i64 s.ret::ys∧Ints w s.args (.slice A n c)∧SgC w r ys
theorem SgC.up {w w':World}(e:Ext w w'): ∀{l:List M.Sg} {xs:List Value},SgC w l xs→SgC w' l xs
 | [],_,h=>h
 | s::r,_,⟨A,n,c,ys,h1,h2,h3⟩=>⟨A,n,c,ys,h1,h2.up e,SgC.up e h3⟩
def OwnS (W w:World)(v:Value)(l:List M.Sg): Prop:=∃xs,w.ownsRow W.heap.size 62 3 v l.length xs∧SgC W l xs
theorem OwnS.frame {W w w':World}{v:Value}{l:List M.Sg}(h:OwnS W w v l)(hb:∀b,W.heap.size≤b→b<w.heap.size→w'.heap[b]?=w.heap[b]?): OwnS W w' v l:=by
 obtain⟨xs,h1,h2⟩:=h;exact⟨xs,kframe h1 hb,h2⟩
theorem OwnS.up {W w w':World}{v:Value}{l:List M.Sg}(h:OwnS W w v l)(e:Ext w w'): OwnS W w' v l:=h.frame fun b _ hb=>e.block b hb
namespace M
def kPre (nm:List UInt8)(l:List Sg)(k:Nat): Prop:=∀(j:Nat) (x:Sg),j<k→l[j]?=some x→Go.Op.bytesLess x.name nm=true
end M
section
variable {P:Program} {ops:Array Oper} {Q:Exit→Act→World→Prop}
variable {X:List Nat} {i j k:Nat} {r rest:List (Nat×Nat)} {a:Act} {w:World}
end
end Go.Proofs.YtoenjbkmiphhoaaGreatDoor.Q
