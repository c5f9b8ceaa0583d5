/-
  Contracts: the steps of dividing by a row: a row taken away so many times in place, put back in place.
-/
import Derived.Test.YtoenjbkmiphhoaaGreatDoorA02
import Derived.Test.YtoenjbkmiphhoaaGreatDoorShelf
import Derived.Deep.DeepCutAuto
import Derived.Deep.CutBlock
import Derived.Lib.ItoaNum
import Derived.Laws.Bits64b
import Derived.Laws.Externs
import Derived.Laws.CopyOwn
namespace Go.Proofs.YtoenjbkmiphhoaaGreatDoor
set_option linter.unusedSimpArgs false
set_option linter.unusedVariables false
open Go.RowKit
def Only (g:Nat)(w w':World): Prop:=w.grownBy w' (some g)
theorem Only.refl (g:Nat)(w:World): Only g w w:=World.grownBy.refl w _
theorem Only.trans {g:Nat}{a b c:World}(h:Only g a b)(k:Only g b c): Only g a c:=
 ⟨k.os.trans h.os,k.tape.trans h.tape,k.output.trans h.output,Nat.le_trans h.size k.size,fun i hi hne=>(k.block i (Nat.lt_of_lt_of_le hi h.size) hne).trans (h.block i hi hne)⟩
theorem Only.setCell {g:Nat}{a w:World}(h:Only g a w)(i:Nat)(u:Value): Only g a (w.setCell ⟨g,i,none⟩ u):=
 ⟨h.os,h.tape,h.output,by simpa [World.setCell] using h.size,fun k hk hne=>(Below.heap_setCell w ⟨g,i,none⟩ u k (fun e=>hne (by rw[e]))).trans (h.block k hk hne)⟩
theorem Only.drewN {g:Nat}{a w:World}(h:Only g a w)(n:Nat): Only g a (w.drewN n):=⟨h.os,h.tape,h.output,h.size,h.block⟩
theorem Only.below {g:Nat}{a w:World}(h:Only g a w){C:Nat}(hC:C≤g)(hg:g<a.heap.size): Below C a w:=
 ⟨h.os,h.tape,h.output,h.size,fun k hk=>h.block k (by omega) (fun e=>by injection e with e;omega)⟩
theorem Only.blk {g:Nat}{a w:World}(h:Only g a w){k:Nat}{l:List Nat}(hb:Blk a k l)(hne:k≠g): Blk w k l:=
 (h.block k hb.lt (fun e=>hne (by injection e))).trans hb
end Go.Proofs.YtoenjbkmiphhoaaGreatDoor
