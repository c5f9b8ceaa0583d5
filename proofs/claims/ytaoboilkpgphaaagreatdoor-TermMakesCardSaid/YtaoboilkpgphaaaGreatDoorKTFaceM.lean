/-
  Package term as TermMakes asks for it.
-/
import Derived.Test.YtaoboilkpgphaaaGreatDoorKTFace
import Derived.Test.YtaoboilkpgphaaaGreatDoorKLMakes
namespace Go.Proofs.YtaoboilkpgphaaaGreatDoor.Q
open Go.RowKit
theorem faceM : FaceM Tab where
 up_ h e := h.up e
 known_ h := known_t h
 make_ ht h hf := make_t h (M.kfewL_few hf) ht
 app_ ht hs hn h hf := app_t hs (M.kfewS_len hn) h (M.kfewL_few hf) ht
 sig_ hs hn := isSig_t hs (M.kfewS_len hn)
 num_ h := num_t h (by omega)
 bool_ b w := bool_t b w
theorem makes_t {op : Int} {s : M.Sg} {l : List M.Tm} {ls : List Nat} {g b : Bool} {N : Option Addr} {nn nc : Nat} {v v' : Value} {w : World} (h : IsSg w s v') (hl : Tms w l v) (hn : LNum w (.slice N nn nc) ls) (ht : Tab w) : Calls Tryz.prog 3 #[.int .i64 op, v', v, .agg #[.bool g, .slice N nn nc], .bool b] w (GivesB w true) := makes_n faceM h hl hn ht
end Go.Proofs.YtaoboilkpgphaaaGreatDoor.Q
