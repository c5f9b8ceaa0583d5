/-
  Package term as TermTells asks for it.
-/
import Derived.Test.YtaoboilkpgphaaaDoorKTFace
import Derived.Test.YtaoboilkpgphaaaDoorKLTells
namespace Go.Proofs.YtaoboilkpgphaaaDoor.Q
open Go.RowKit
theorem faceT : FaceT Tab where
 up_ h e := h.up e
 known_ h := known_t h
 is_ ht h hf := is_t h (M.kfewT_few hf) ht
 count_ h _ := count_t _ h
 same_ h h' _ _ := same_t _ h h'
 sigs_ ht h hf := sigs_t h (M.kfewT_few hf) ht
theorem tells_t {t t' : M.Tm} {v v' : Value} {w : World} (h : IsTm w t v) (h' : IsTm w t' v') (ht : Tab w) : Calls Tryd.prog 3 #[v, v'] w (GivesB w true) := tells_n faceT h h' ht
end Go.Proofs.YtaoboilkpgphaaaDoor.Q
