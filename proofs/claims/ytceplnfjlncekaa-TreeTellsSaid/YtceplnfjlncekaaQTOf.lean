/-
  Layer 9, the reference: a tree's words.
-/
import Derived.Test.YtceplnfjlncekaaQTCount
namespace Go.Proofs.Ytceplnfjlncekaa
set_option linter.unusedSimpArgs false
set_option linter.unusedVariables false
open Go.RowKit

namespace M
theorem cells_app (a b : List Tok) : cells (a ++ b) = cells a ++ cells b := by unfold cells; simp
theorem cells_get : ∀ {us : List Tok} {j : Nat} {u : Value}, (cells us)[j]? = some u → ∃ k t, us[k]? = some t ∧ ((j = k * 2 ∧ u = .int .i64 t.1) ∨ (j = k * 2 + 1 ∧ u = str t.2))
 | [], _, _, h => by simp [cells] at h
 | x :: r, 0, u, h => by
  have e : cells (x :: r) = Value.int .i64 x.1 :: str x.2 :: cells r := rfl
  rw [e] at h; simp at h
  exact ⟨0, x, rfl, .inl ⟨rfl, h.symm⟩⟩
 | x :: r, 1, u, h => by
  have e : cells (x :: r) = Value.int .i64 x.1 :: str x.2 :: cells r := rfl
  rw [e] at h; simp at h
  exact ⟨0, x, rfl, .inr ⟨rfl, h.symm⟩⟩
 | x :: r, j + 2, u, h => by
  have e : cells (x :: r) = Value.int .i64 x.1 :: str x.2 :: cells r := rfl
  rw [e] at h
  obtain ⟨k, t, h1, h2⟩ := cells_get (us := r) (j := j) (u := u) (by simpa using h)
  refine ⟨k + 1, t, by simpa using h1, ?_⟩
  rcases h2 with ⟨h2, h3⟩ | ⟨h2, h3⟩
  ·exact .inl ⟨by omega, h3⟩
  ·exact .inr ⟨by omega, h3⟩
theorem cells_one {us : List Tok} {u : Value} (h : u ∈ cells us) : u.oneCell' = true := by
 obtain ⟨j, h1, h2⟩ := List.mem_iff_getElem.1 h
 obtain ⟨k, t, _, h3⟩ := cells_get (List.getElem?_eq_some_iff.2 ⟨h1, h2⟩)
 rcases h3 with ⟨_, rfl⟩ | ⟨_, rfl⟩ <;> rfl
theorem wds_ne (t : T) : wds t ≠ [] := by
 obtain ⟨l, tk, ks⟩ := t
 rw [wds]; split <;> simp
end M
theorem wpList_appTs {w : World} {ops : Array Oper} {rest : List Oper} {o : Oper} {a : Act} {Q : Exit → Act → World → Prop} (hgd : o.guard = none) (s x : Operand)
 (ho : o.op = .call { callee := .builtin .append, args := #[s, x], argTypes := #[22, 22] })
 (base : Nat) (v x' : Value) (ts us : List M.Tok) (hs : a.eval s = v) (hown : OwnT base w v ts) (hx : a.eval x = x') (hl : TList w x' us) (hne : us ≠ [])
 (hlen : ts.length + us.length ≤ 1000000000) (hbase : base ≤ w.heap.size)
 (h : ∀ v' w', OwnT base w' v' (ts ++ us) → Below base w w' → wpList Try.prog ops Q rest (a.put o.dst v') w') : wpList Try.prog ops Q (o :: rest) a w := by
 obtain ⟨i0, hi, hz0, hz1, hz2⟩ := info_parts info_Token
 obtain ⟨A, n, c, rfl, hn, _, _, h5⟩ := hl
 obtain ⟨ad, rfl, hb, hc⟩ := h5 hne
 refine wpList_append_own w hgd s x 22 ho base 33 i0 _ 2 24 Try.underlying22 hi hz0 hz1 hz2 rfl (by decide) v ts.length _ hs hown ad n c (M.cells us) hx (by rw [M.cells_len, hn]) ?_ (fun u hu => M.cells_one hu) (by unfold maxLen; omega) (by omega) hbase ?_
 ·intro j u hj
  obtain ⟨k, t, h1, h2⟩ := M.cells_get hj
  obtain ⟨c0, c1⟩ := hc k t h1
  rcases h2 with ⟨rfl, rfl⟩ | ⟨rfl, rfl⟩
  ·exact c0
  ·rw [← Addr.add_add]; exact c1
 ·intro v' w' h1 h2 _
  refine h v' w' ?_ ((Below.refl _ _).grown h2 hbase fun k hk => (World.ownsRow.lt hown k hk).1)
  unfold OwnT
  rw [List.length_append, M.cells_app, ← hn]
  exact h1
/-- A list of words that a call gives. -/
def GivesTs (w : World) (ts : List M.Tok) (e : Ending) (w' : World) : Prop := ∃ v, e = .returned v ∧ TList w' v ts ∧ Ext w w'
/-- A list of one word, just made. -/
theorem OwnT.lit (base : Nat) (w : World) (t : M.Tok) (hb : base ≤ w.heap.size) : OwnT base (w.alloc (.cells #[.int .i64 t.1, str t.2] 33)) (.slice (some ⟨w.heap.size, 0, none⟩) 1 1) [t] :=
 World.ownsRow_lit w #[.int .i64 t.1, str t.2] 1 hb (by unfold maxLen; omega) rfl
set_option maxHeartbeats 8000000 in
theorem rOf_n (t : M.T) : ∀ {v : Value} {w : World}, IsT w t v → (M.wds t).length ≤ 1000000000 → Calls Try.prog 23 #[v] w (GivesTs w (M.wds t)) := by
 refine M.T.indA (P := fun t => ∀ {v : Value} {w : World}, IsT w t v → (M.wds t).length ≤ 1000000000 → Calls Try.prog 23 #[v] w (GivesTs w (M.wds t))) (fun l tk ks ih v w h hlen => ?_) t
 obtain ⟨A, c, rfl, hk⟩ := h
 replace hk : Kids w ks (.slice A ks.length c) := hk
 show Calls Try.prog 23 #[tv l tk A ks.length c] w _
 obtain ⟨hl1, hl2, hl3⟩ := hk.le
 have hl4 : c ≤ 9223372036854775807 := by unfold maxLen at hl3; omega
 obtain ⟨n, hn⟩ : ∃ n, ks.length = n := ⟨_, rfl⟩
 obtain ⟨z, hz⟩ : ∃ z, M.wds (.mk l tk ks) = z := ⟨_, rfl⟩
 have hz' : z = if l = true then (1, []) :: (M.wdss ks ++ [(2, [])]) else [tk] := by rw [← hz, M.wds]
 rw [hz] at hlen ⊢
 rw [hn] at hk hl2 ⊢
 have HN := hid hn
 clear hl1 hl3 hz hn
 cases l with
 | false =>
  have HZ := hid (show [tk] = z by rw [hz']; rfl)
  clear hk ih hz' hlen
  go_enter Try.func23, Try.ntmps23
  go_wp2
  go_ret
  obtain rfl := HZ.out
  exact ⟨_, rfl, by have := (OwnT.lit 0 (boxed w false tk A n c) tk (Nat.zero_le _)).list; simpa using this, (Ext.alloc w _).alloc' _⟩
 | true =>
  have HZ := hid (show z = (1, []) :: (M.wdss ks ++ [(2, [])]) by rw [hz']; rfl)
  have HL := hid (show (M.wdss ks).length + 2 ≤ 1000000000 by rw [HZ.out] at hlen; simpa using hlen)
  have HK := hid hk
  have IH := hid ih
  clear hk ih hz' hlen
  go_enter Try.func23, Try.ntmps23
  go_wp2_with fail
  go_loopw [3, 4] (fun o i wr => ∃ (k : Nat), i = .int .i64 (k : Int) ∧ k ≤ n ∧ Hid (OwnT (w.heap.size + 1) wr o ((1, []) :: M.wdss (ks.take k)) ∧ Ext (boxed w true tk A n c) wr)) (fun _ i _ => n - (intOf i).toNat)
  case atStart => exact ⟨0, rfl, Nat.zero_le _, by
   have := OwnT.lit (w.heap.size + 1) (boxed w true tk A n c) (1, []) (by simp)
   simpa [M.wdss] using this, Ext.alloc _ _⟩
  case round =>
   obtain ⟨k, rfl, hk, hR⟩ := hrel
   have E := hid hR.out.2
   obtain ⟨b0, b1, b2, b3, hz⟩ := box4 E.out
   have HO := hid hR.out.1
   have hsz := E.out.size
   rw [show (boxed w true tk A n c).heap.size = w.heap.size + 1 by simp] at hsz
   clear hR
   rcases Nat.lt_or_ge k n with hlt | hge
   ·have hlt' : (k : Int) < (n : Int) := by omega
    obtain ⟨ad, u, B, d, rfl, hu, c0, c1, c2, c3, hv⟩ := (HK.out.up ((Ext.alloc w _).trans E.out)).get hlt
    have HU := hid hu
    have hlu : (M.wdss (ks.take k)).length + (M.wds u).length ≤ (M.wdss ks).length := by
     have h1 := M.wdss_take HU.out
     have h2 := congrArg List.length (congrArg M.wdss (List.take_append_drop (k + 1) ks))
     rw [M.wdss_app, List.length_append, h1, List.length_append] at h2
     omega
    have hll := HL.out
    have HC := hid (IH.out k u HU.out hv (by omega))
    have HLU := hid hlu
    clear hu hv hlu hll
    go_wp2_with (first | (go_at_call 23; refine HC.out.mono ?_; rintro e w2 ⟨v2, rfl, hv2, hb⟩; have E2 := hid hb; have HV2 := hid hv2; clear hb hv2) | (at_builtin; refine wpList_appTs rfl (.tmp 20) (.tmp 26) rfl (w.heap.size + 1) _ v2 _ (M.wds u) rfl (HO.out.up E2.out) rfl HV2.out (M.wds_ne u) ?c2 ?c3 ?_))
    case c2 => have h1 := HLU.out; have h2 := HL.out; simp; omega
    case c3 => have h2 := E2.out.size; omega
    intro v' w3 hown hbel
    have HOW := hid hown
    have HE := hid (show Ext (boxed w true tk (some ad) n c) w3 from Below.trans (B := (boxed w true tk (some ad) n c).heap.size) (E.out.trans E2.out) (by simpa using hbel))
    clear hown hbel
    go_wp2_with fail
    go_roundw
    case rel => exact ⟨k + 1, by simp, by omega, by rw [M.wdss_take HU.out]; exact HOW.out, HE.out⟩
    case measure => simp [intOf]; omega
   ·obtain rfl : k = n := by omega
    go_wp2_with (at_builtin; refine wpList_appT rfl (.tmp 28) (.tmp 30) rfl (w.heap.size + 1) _ _ rfl (HO.out.alloc _) _ (2, []) rfl ?c0 ?c1 ?c2 ?c3 ?_)
    case c2 => have h1 := HL.out; rw [← HN.out, List.take_length]; simp; omega
    case c3 => simp; omega
    intro v' w3 hown hbel
    have HOW := hid hown
    have HE := hid (show Ext (boxed w true tk A k c) w3 from Below.trans (B := (boxed w true tk A k c).heap.size) (E.out.alloc' _) (by simpa using hbel))
    clear hown hbel
    go_wp2_with fail
    go_ret
    refine ⟨_, rfl, ?_, (Ext.alloc w _).trans HE.out⟩
    have := HOW.out.list
    rw [← HN.out, List.take_length] at this
    rw [HZ.out]
    exact this
end Go.Proofs.Ytceplnfjlncekaa
