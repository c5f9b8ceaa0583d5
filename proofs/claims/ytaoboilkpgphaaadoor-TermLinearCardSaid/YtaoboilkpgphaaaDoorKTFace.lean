/-
  Package term as the laws' structures ask for it; known.
-/
import Derived.Test.YtaoboilkpgphaaaDoorKTMake
import Derived.Test.YtaoboilkpgphaaaDoorKTSigs
import Derived.Test.YtaoboilkpgphaaaDoorKKnown
namespace Go.Proofs.YtaoboilkpgphaaaDoor.Q
set_option linter.unusedSimpArgs false
set_option linter.unusedVariables false
open Go.RowKit
namespace M
theorem kfewT_few {t : Tm} (h : kfewT t = true) : kfew t = true := by
 unfold kfewT at h
 simp only [Bool.and_eq_true] at h
 exact h.2
theorem kfews_all : ∀ {l : List Tm}, (∀ t ∈ l, kfew t = true) → kfews l = true
 | [], _ => rfl
 | t :: r, h => by
  rw [kfews, h t (List.mem_cons_self ..), Bool.true_and]
  exact kfews_all fun u hu => h u (List.mem_cons_of_mem _ hu)
theorem kfewL_few {l : List Tm} (h : kfewL l = true) : kfews l = true := kfews_all fun t ht => ((kfewL_parts h).1 t ht).2
theorem kfewS_len {s : Sg} (h : kfewS s = true) : s.name.length ≤ 1000000000000 := by
 unfold kfewS at h
 simp only [Bool.and_eq_true, decide_eq_true_eq] at h
 omega
end M
theorem faceK : FaceK Tab where
 up_ h e := h.up e
 make_ ht h hf := make_t h (M.kfewL_few hf) ht
 app_ ht hs hn h hf := app_t hs (M.kfewS_len hn) h (M.kfewL_few hf) ht
 sig_ hs hn := isSig_t hs (M.kfewS_len hn)
 num_ h := num_t h (by omega)
 bool_ b w := bool_t b w
 is_ ht h hf := is_t h (M.kfewT_few hf) ht
 count_ h _ := count_t _ h
 same_ h h' _ _ := same_t _ h h'
 sigs_ ht h hf := sigs_t h (M.kfewT_few hf) ht
theorem known_t {w : World} (h : Tab w) : Calls Tryd.prog 8 #[] w (GivesB w true) := known_n faceK h
end Go.Proofs.YtaoboilkpgphaaaDoor.Q
