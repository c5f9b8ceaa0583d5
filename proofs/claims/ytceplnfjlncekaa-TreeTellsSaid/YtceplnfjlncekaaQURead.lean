/-
  Contracts of package tree: Read.
-/
import Derived.Test.YtceplnfjlncekaaQUTake
import Derived.Test.YtceplnfjlncekaaQLexD
namespace Go.Proofs.Ytceplnfjlncekaa
set_option linter.unusedSimpArgs false
set_option linter.unusedVariables false
open Go.RowKit

/-- Trees, where, what is wrong. -/
def GivesR (w : World) (r : List M.T × Nat × Int) (e : Ending) (w' : World) : Prop := ∃ v, e = .returned (.tuple #[v, .int .i64 (r.2.1 : Int), .int .i64 r.2.2]) ∧ Kids w' r.1 v ∧ Ext w w'
/-- What the loop keeps. -/
def RoundT (w : World) (L : List M.Tok) (k : Nat) (wr : World) : Prop := ∃ s rv ov, RS w.heap.size wr w.heap.size s rv ov ∧ M.good s k ∧ M.readM L = M.mach s k (L.drop k) ∧ Ext w wr
theorem gp_all (w : World) {p : Nat → Prop} [DecidablePred p] {w' : World} (e : Ext w w') : Sub (gp p w) (gp (fun _ => True) w') := gp_mono e.size fun k hk _ => ⟨trivial, e.block k hk⟩
set_option maxHeartbeats 8000000 in
theorem read_t {w : World} {v : Value} {L : List M.Tok} (hl : TList w v L) (hlen : L.length ≤ 1000000) : Calls Try.prog 11 #[v] w (GivesR w (M.readM L)) := by
 obtain ⟨A, n, c, rfl, hn, hnc, hcm, hA⟩ := hl
 have hT : TList w (.slice A n c) L := ⟨A, n, c, rfl, hn, hnc, hcm, hA⟩
 have hc9 : c ≤ 9223372036854775807 := by unfold maxLen at hcm; omega
 have hn9 : n ≤ 1000000 := by omega
 obtain ⟨R, hR⟩ : ∃ R, M.readM L = R := ⟨_, rfl⟩
 rw [hR]
 have HT := hid hT
 have HN := hid hn
 have HR := hid hR
 clear hT hA hn hcm hR hlen
 go_enter Try.func11, Try.ntmps11
 go_wp2_with fail
 go_loopw [11] (fun i wr => ∃ (k : Nat), i = .int .i64 (k : Int) ∧ k ≤ n ∧ Hid (RoundT w L k wr)) (fun i _ => n - (intOf i).toNat)
 case atStart =>
  refine ⟨0, rfl, Nat.zero_le _, ⟨[], [], 0⟩, .slice none 0 0, .slice none 0 0, ?_, ?_, rfl, Ext.alloc w _⟩
  ·exact ⟨Box.new w _ _, ⟨[], World.ownsRow_nil _ _ _ _, rfl⟩, World.ownsRow_nil _ _ _ _, Nat.le_refl _⟩
  ·exact ⟨by simp, by simp, by simp [M.rowUp]⟩
 case round =>
  obtain ⟨k, rfl, hk, hRd⟩ := hrel
  obtain ⟨s, rv, ov, hrs, hgood, hmach, hE⟩ := hRd.out
  have HG := hid hgood
  have E := hid hE
  have hbx := hrs.box.lt
  clear hRd
  rcases Nat.lt_or_ge k n with hlt | hge
  ·have hlt' : (k : Int) < (n : Int) := by omega
   obtain ⟨ad, tk, rfl, htk, c0, c1⟩ := TList.get (HT.out.up hE) (k := k) (by rw [← HN.out]; exact hlt)
   have hdr : L.drop k = tk :: L.drop (k + 1) := by
    obtain ⟨hkl, e⟩ := List.getElem?_eq_some_iff.1 htk
    rw [← e]; exact List.drop_eq_getElem_cons hkl
   rw [hdr, M.mach] at hmach
   have HM := hid hmach
   have hRS2 := hrs.up (Ext.alloc wr (.cells #[.int .i64 tk.1, str tk.2] 33))
   obtain ⟨z, hz⟩ : ∃ z, M.fault s tk.1 = z := ⟨_, rfl⟩
   have HF := hid (fault_n hRS2 tk.1)
   have HK : Hid (z = 0 → Calls Try.prog 28 #[.pointer (some ⟨w.heap.size, 0, none⟩), .agg #[.int .i64 tk.1, str tk.2]] (wr.alloc (.cells #[.int .i64 tk.1, str tk.2] 33)) (TakeP w.heap.size (wr.alloc (.cells #[.int .i64 tk.1, str tk.2] 33)) w.heap.size (M.put s tk))) := hid fun hz0 => take_n hRS2 (by have := hgood.2.2; unfold rowK; omega) hgood.1 hgood.2.1 (hz.trans hz0)
   have HGP : Hid (z = 0 → M.good (M.put s tk) (k + 1)) := hid fun hz0 => M.good_put hgood (hz.trans hz0)
   have HZ := hid hz
   rw [hz] at HF HM
   clear hmach hdr hgood hE hrs hRS2 htk hz
   by_cases hz0 : z = 0
   ·subst hz0
    have HK2 := hid (HK.out rfl)
    clear HK
    go_wp2_with (first | (go_at_call 27; refine HF.out.mono ?_; rintro e w' ⟨rfl, rfl⟩) | (go_at_call 28; refine HK2.out.mono ?_; rintro e w' ⟨v', rv', ov', rfl, hrs', hb'⟩; have HRS' := hid hrs'; replace E := hid (show Ext w w' from Below.trans (B := w.heap.size) (E.out.alloc' _) hb'); clear hrs' hb'))
    go_roundw
    case rel => exact ⟨k + 1, by simp, by omega, _, _, _, HRS'.out, HGP.out (by trivial), by have := HM.out; simpa using this, E.out⟩
    case measure => simp [intOf]; omega
   ·have hz1 : (z != 0) = true := by simpa using hz0
    clear HK HGP
    go_wp2_with (go_at_call 27; refine HF.out.mono ?_; rintro e w' ⟨rfl, rfl⟩)
    go_ret3
    have hR := HR.out
    rw [HM.out, if_neg hz0] at hR
    subst hR
    exact ⟨_, rfl, Kids.nil _, E.out.alloc' _⟩
  ·obtain rfl : k = n := by omega
   have hdr : L.drop k = [] := List.drop_eq_nil_of_le (by rw [HN.out]; exact Nat.le_refl _)
   rw [hdr, M.mach] at hmach
   obtain ⟨B, oc, rfl, ho1, ho2⟩ := ownsRow_shape hrs.op
   have ho3 : oc ≤ 9223372036854775807 := by unfold maxLen at ho2; omega
   have hbo := hrs.box
   obtain ⟨m, hm⟩ : ∃ m, s.up.length = m := ⟨_, rfl⟩
   rw [hm] at hbo ho1
   have b1 := hbo.k 1 (v := .slice B m oc)
   by_cases m0 : m = 0
   ·subst m0
    have hup : s.up = [] := List.eq_nil_of_length_eq_zero hm
    rw [hup] at hmach
    obtain ⟨cs, hrow, hreps⟩ := hrs.row
    have hrk : rowK s = s.cur := by unfold rowK; rw [hup]; rfl
    obtain ⟨B', cap, rfl, hr1, hr2⟩ := ownsRow_shape hrow
    have hgl := hgood.2.2
    rw [show M.rowUp s.up ++ s.cur = rowK s from rfl] at hgl
    rw [hrk] at hrow hreps hr1 hbo hgl
    have b0 := hbo.k 0 (v := .slice B' s.cur.length cap)
    have hlc : cs.length = s.cur.length * 4 := hreps.len
    have HC := hid (copied_n (w := wr) (A := B') (m := s.cur.length) (c := cap) (cs := cs) hlc hreps.one (by
     rcases hrow.2 with ⟨h1, h2⟩ | ⟨rb, cap', cur, h1, _⟩
     ·injection h1 with e1 e2 e3
      exact .inl ⟨e1, h2, e3⟩
     ·injection h1 with e1 e2 e3
      subst e1
      exact .inr ⟨_, rfl, fun j u hu => World.ownsRow.cells hrow rfl _ _ hu⟩) (by omega))
    obtain ⟨p, hp⟩ : ∃ p, s.cur.length = p := ⟨_, rfl⟩
    rw [hp] at HC b0
    have HRP := hid hreps
    have HP := hid hp
    have hR2 := hid (show R = (s.cur, k, 0) by have hR := HR.out; rw [← hR, hmach]; rfl)
    clear hmach hrs hgood hE hbo hrow hreps hdr hm hup hrk hr1 hr2 hgl hlc hp ho2
    go_wp2_with (go_at_call 29; refine HC.out.mono ?_; rintro e w' ⟨v', rfl, ho', hb'⟩; have HO' := hid ho'; have E3 := hid hb'; clear ho' hb')
    go_ret3
    have hk2 := owns_kids (p := fun _ => True) (ks := s.cur) (by rw [HP.out]; exact HO'.out) (HRP.out.sub (gp_all wr E3.out)) (fun _ _ => trivial)
    rw [hR2.out]
    exact ⟨_, rfl, hk2.sub (gp_sub _ _), E.out.trans E3.out⟩
   ·have hm0 : ((m : Int) > 0) := by omega
    have hm0' : (0 : Int) < (m : Int) := by omega
    have hR2 := hid (show R = ([], k, 13) by
     have hR := HR.out
     rw [← hR, hmach, if_neg]
     intro h1
     rw [List.isEmpty_iff] at h1
     rw [h1] at hm
     exact m0 hm.symm)
    clear hmach hrs hgood hE hbo hdr hm m0
    go_wp2
    go_ret3
    rw [hR2.out]
    exact ⟨_, rfl, Kids.nil _, E.out⟩
end Go.Proofs.Ytceplnfjlncekaa
