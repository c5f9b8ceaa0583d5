/-
  Layer 10: a term's names: mathematics; names' Sigs in memory; the reference's SameSigs.
-/
import Derived.Test.YtaoboilkpgphaaaDoorKLaw
namespace Go.Proofs.YtaoboilkpgphaaaDoor.Q
set_option linter.unusedSimpArgs false
set_option linter.unusedVariables false
open Go.RowKit

namespace M
/-- How many of the first Sigs have names ahead of one's. -/
def kpl (nm : List UInt8) : List Sg → Nat
 | [] => 0
 | s :: r => if Go.Op.bytesLess s.name nm = true then kpl nm r + 1 else 0
/-- A Sig more. -/
def kadd (s : Sg) (p : List Sg × Bool) : List Sg × Bool :=
 match p.1[kpl s.name p.1]? with
 | some x => if x.name = s.name then (p.1, p.2 && ksameS x s) else (p.1.take (kpl s.name p.1) ++ (s :: p.1.drop (kpl s.name p.1)), p.2)
 | none => (p.1.take (kpl s.name p.1) ++ (s :: p.1.drop (kpl s.name p.1)), p.2)
mutual
/-- A term's names, behind others. -/
def ksigs : Tm → List Sg × Bool → List Sg × Bool
 | .mk op _ _ nm so ks, p => ksigss ks (if op = 4 then kadd ⟨nm, ks.map Tm.sort, so⟩ p else p)
def ksigss : List Tm → List Sg × Bool → List Sg × Bool
 | [], p => p
 | t :: r, p => ksigss r (ksigs t p)
end
theorem ksigss_app (a b : List Tm) : ∀ (p : List Sg × Bool), ksigss (a ++ b) p = ksigss b (ksigss a p) := by
 induction a with
 | nil => intro p; simp [ksigss]
 | cons x r ih => intro p; rw [List.cons_append, ksigss, ksigss, ih]
theorem ksigss_take {ks : List Tm} {k : Nat} {t : Tm} (h : ks[k]? = some t) (p : List Sg × Bool) : ksigss (ks.take (k + 1)) p = ksigs t (ksigss (ks.take k) p) := by
 rw [List.take_add_one, h, ksigss_app]; simp [ksigss]
theorem kpl_le (nm : List UInt8) : ∀ (l : List Sg), kpl nm l ≤ l.length
 | [] => Nat.le_refl _
 | s :: r => by have := kpl_le nm r; rw [kpl]; split <;> simp <;> omega
theorem kpl_at (nm : List UInt8) : ∀ (l : List Sg) (k : Nat) (s : Sg), l[k]? = some s → (∀ (j : Nat) (x : Sg), j < k → l[j]? = some x → Go.Op.bytesLess x.name nm = true) → Go.Op.bytesLess s.name nm = false → kpl nm l = k
 | [], _, _, h, _, _ => by simp at h
 | x :: r, 0, s, h, _, hb => by simp at h; subst h; rw [kpl, if_neg (by rw [hb]; decide)]
 | x :: r, k + 1, s, h, hp, hb => by
  rw [kpl, if_pos (hp 0 x (by omega) rfl), kpl_at nm r k s (by simpa using h) (fun j y hj hy => hp (j + 1) y (by omega) (by simpa using hy)) hb]
theorem kpl_all (nm : List UInt8) : ∀ (l : List Sg), (∀ (j : Nat) (x : Sg), l[j]? = some x → Go.Op.bytesLess x.name nm = true) → kpl nm l = l.length
 | [], _ => rfl
 | x :: r, hp => by rw [kpl, if_pos (hp 0 x rfl), kpl_all nm r (fun j y hy => hp (j + 1) y (by simpa using hy))]; simp
theorem kadd_len (s : Sg) (p : List Sg × Bool) : (kadd s p).1.length ≤ p.1.length + 1 := by
 have h := kpl_le s.name p.1
 unfold kadd
 split
 ·split
  ·simp
  ·simp; omega
 ·simp; omega
mutual
theorem ksigs_len : ∀ (t : Tm) (p : List Sg × Bool), (ksigs t p).1.length ≤ p.1.length + kcnt t
 | .mk op g ls nm so ks, p => by
  rw [ksigs, kcnt]
  have h1 := ksigss_len ks (if op = 4 then kadd ⟨nm, ks.map Tm.sort, so⟩ p else p)
  have h2 := kadd_len ⟨nm, ks.map Tm.sort, so⟩ p
  split at h1 <;> rename_i hop
  ·rw [if_pos hop]; omega
  ·rw [if_neg hop]; omega
theorem ksigss_len : ∀ (ks : List Tm) (p : List Sg × Bool), (ksigss ks p).1.length ≤ p.1.length + kcnts ks
 | [], p => by simp [ksigss]
 | t :: r, p => by
  rw [ksigss, kcnts]
  have h1 := ksigss_len r (ksigs t p)
  have h2 := ksigs_len t p
  omega
end
end M
/-- A name's Sig at a place. -/
def SgAt (w : World) (s : M.Sg) (a : Addr) : Prop := ∃ A n c, (w.cell? a = some (str s.name) ∧ w.cell? (a.add 1) = some (.slice A n c) ∧ w.cell? (a.add 2) = some (.int .i64 s.ret)) ∧ Ints w s.args (.slice A n c)
/-- A list of names' Sigs in memory. -/
def Sgs (w : World) (l : List M.Sg) (v : Value) : Prop := ∃ A n c, v = .slice A n c ∧ n = l.length ∧ n ≤ c ∧ c ≤ maxLen ∧ (l ≠ [] → ∃ ad, A = some ad ∧ ad.block < w.heap.size ∧ ∀ k s, l[k]? = some s → SgAt w s (ad.add (k * 3)))
theorem SgAt.up {w w' : World} {s : M.Sg} {a : Addr} (h : SgAt w s a) (e : Ext w w') : SgAt w' s a := by
 obtain ⟨A, n, c, ⟨h1, h2, h3⟩, h4⟩ := h
 exact ⟨A, n, c, ⟨e.cell h1, e.cell h2, e.cell h3⟩, h4.up e⟩
theorem Sgs.up {w w' : World} {l : List M.Sg} {v : Value} (h : Sgs w l v) (e : Ext w w') : Sgs w' l v := by
 obtain ⟨A, n, c, h1, h2, h3, h4, h5⟩ := h
 refine ⟨A, n, c, h1, h2, h3, h4, fun hne => ?_⟩
 obtain ⟨ad, ha, hb, hc⟩ := h5 hne
 exact ⟨ad, ha, Nat.lt_of_lt_of_le hb e.size, fun k s hk => (hc k s hk).up e⟩
theorem Sgs.nil (w : World) : Sgs w [] (.slice none 0 0) := ⟨none, 0, 0, rfl, rfl, Nat.le_refl _, Nat.zero_le _, fun h => absurd rfl h⟩
theorem Sgs.shape {w : World} {l : List M.Sg} {v : Value} (h : Sgs w l v) : ∃ A c, v = .slice A l.length c := by
 obtain ⟨A, n, c, h1, h2, _⟩ := h
 exact ⟨A, c, by rw [h1, h2]⟩
theorem Sgs.le {w : World} {A : Option Addr} {n c : Nat} {l : List M.Sg} (h : Sgs w l (.slice A n c)) : n = l.length ∧ n ≤ c ∧ c ≤ 9223372036854775807 := by
 obtain ⟨A', n', c', e, h2, h3, h4, _⟩ := h
 injection e with e1 e2 e3
 subst e1 e2 e3
 exact ⟨h2, h3, by unfold maxLen at h4; omega⟩
/-- The k-th of them: its cells, what it is. -/
theorem Sgs.get {w : World} {A : Option Addr} {n c : Nat} {l : List M.Sg} (h : Sgs w l (.slice A n c)) {k : Nat} (hk : k < n) :
 ∃ ad s B d, A = some ad ∧ l[k]? = some s ∧ (w.cell? (ad.add (k * 3)) = some (str s.name) ∧ w.cell? ⟨(ad.add (k * 3)).block, (ad.add (k * 3)).off + 1, none⟩ = some (.slice B s.args.length d) ∧ w.cell? ⟨(ad.add (k * 3)).block, (ad.add (k * 3)).off + 2, none⟩ = some (.int .i64 s.ret))
  ∧ IsSg w s (sgv s.name B s.args.length d s.ret) := by
 obtain ⟨A', n', c', e, h2, h3, h4, h5⟩ := h
 injection e with e1 e2 e3
 subst e1 e2 e3
 obtain ⟨ad, ha, hb, hc⟩ := h5 (by intro e; subst e; simp at h2; omega)
 have hx : l[k]? = some l[k] := List.getElem?_eq_getElem (by omega)
 obtain ⟨B, m, d, ⟨c0, c1, c2⟩, hi⟩ := hc k _ hx
 have hm := hi.le.1
 subst hm
 exact ⟨ad, _, B, d, ha, hx, ⟨c0, c1, c2⟩, B, d, rfl, hi⟩
set_option maxHeartbeats 8000000 in
set_option maxRecDepth 100000 in
theorem kSameSigs_n {l l' : List M.Sg} {v v' : Value} {w : World} (h : Sgs w l v) (h' : Sgs w l' v') : Calls Tryd.prog 18 #[v, v'] w (GivesB w (decide (l = l'))) := by
 obtain ⟨A, c, rfl⟩ := h.shape
 obtain ⟨A', c', rfl⟩ := h'.shape
 obtain ⟨hl1, hl2, hl3⟩ := h.le
 obtain ⟨hm1, hm2, hm3⟩ := h'.le
 obtain ⟨n, hn'⟩ : ∃ n, l.length = n := ⟨_, rfl⟩
 obtain ⟨n', hn''⟩ : ∃ n', l'.length = n' := ⟨_, rfl⟩
 obtain ⟨z, hz⟩ : ∃ z, decide (l = l') = z := ⟨_, rfl⟩
 rw [hz]
 rw [hn'] at h hl2 ⊢
 rw [hn''] at h' hm2 ⊢
 clear hl1 hm1
 by_cases h3 : n = n'
 case neg =>
  have HZ := hid (show false = z by rw [← hz, decide_eq_false (fun e => h3 (by rw [← hn', ← hn'', e]))])
  have hq : ((n : Int) == (n' : Int)) = false := by simp; omega
  clear hz h h' hn' hn''
  go_enter Tryd.func18, Tryd.ntmps18
  go_wp2
  go_ret
  obtain rfl := HZ.out
  exact ⟨rfl, Ext.refl _⟩
 case pos =>
 subst h3
 have HI := hid h
 have HI' := hid h'
 have HN := hid hn'
 have HN' := hid hn''
 have HZ1 := hid hz
 clear hz h h' hn' hn''
 go_enter Tryd.func18, Tryd.ntmps18
 go_wp2_with fail
 go_loopw [5] (fun i wr => ∃ (k : Nat), i = .int .i64 (k : Int) ∧ k ≤ n ∧ Hid (l.take k = l'.take k ∧ Ext w wr)) (fun i _ => n - (intOf i).toNat)
 case atStart => exact ⟨0, rfl, Nat.zero_le _, rfl, Ext.refl _⟩
 case round =>
  obtain ⟨k, rfl, hk, hR⟩ := hrel
  have E := hid hR.out.2
  have HS := hid hR.out.1
  clear hR
  rcases Nat.lt_or_ge k n with hlt | hge
  ·have hlt' : (k : Int) < (n : Int) := by omega
   obtain ⟨ad, x, B, d, rfl, hx, ⟨c0, c1, c2⟩, hv⟩ := (HI.out.up E.out).get hlt
   obtain ⟨ad', y, B', d', rfl, hy, ⟨e0, e1, e2⟩, hv'⟩ := (HI'.out.up E.out).get hlt
   have HX := hid hx
   have HY := hid hy
   have HV := hid hv
   have HV' := hid hv'
   obtain ⟨q, hq⟩ : ∃ q, M.ksameS x y = q := ⟨_, rfl⟩
   have HQ := hid hq
   have HC := hid (show ∀ w', Ext wr w' → Calls Tryd.prog 41 #[sgv x.name B x.args.length d x.ret, sgv y.name B' y.args.length d' y.ret] w' (GivesB w' q) from fun w' e => hq ▸ kSameSig_n (HV.out.up e) (HV'.out.up e))
   clear hx hy hv hv' hq
   go_wp2_with fail
   cases q
   ·have HZ := hid (show false = z by
     rw [← HZ1.out, decide_eq_false]
     intro e
     have h1 := HX.out
     rw [e, HY.out] at h1
     injection h1 with h1
     have h2 := HQ.out
     unfold M.ksameS at h2
     rw [decide_eq_true h1.symm] at h2
     cases h2)
    refine wp_region_D [(0, 0), (1, 0), (2, 0), (3, 0), (4, 0), (5, 0), (6, 0), (7, 0), (8, 1), (9, 0)] fun wd hb => ?_
    have E6 := hid hb
    replace c0 := hb.cell c0
    replace c1 := hb.cell c1
    replace c2 := hb.cell c2
    replace e0 := hb.cell e0
    replace e1 := hb.cell e1
    replace e2 := hb.cell e2
    clear hb
    refine WE.p 17 (.slice (some ad) n c) ?_
    simp only [Act.put, pA, pB, pC]
    refine WE.p 18 (.int .i64 (k : Int)) ?_
    simp only [Act.put, pA, pB, pC]
    refine WE.p 19 (.pointer (some (ad.add (k * 3)))) ?_
    simp only [Act.put, pA, pB, pC]
    refine WE.q 20 (sgv x.name B x.args.length d x.ret) rfl (fun w' hk => by have x0 := hk.cell c0; have x1 := hk.cell c1; have x2 := hk.cell c2; go_simp) ?_
    simp only [Act.put, pA, pB, pC]
    refine WE.p 21 (.slice (some ad') n c') ?_
    simp only [Act.put, pA, pB, pC]
    refine WE.p 22 (.int .i64 (k : Int)) ?_
    simp only [Act.put, pA, pB, pC]
    refine WE.p 23 (.pointer (some (ad'.add (k * 3)))) ?_
    simp only [Act.put, pA, pB, pC]
    refine WE.q 24 (sgv y.name B' y.args.length d' y.ret) rfl (fun w' hk => by have x0 := hk.cell e0; have x1 := hk.cell e1; have x2 := hk.cell e2; go_simp) ?_
    simp only [Act.put, pA, pB, pC]
    refine WE.c 25 ((HC.out _ E6.out).mono ?_)
    rintro e w6 ⟨rfl, hb6⟩
    refine ⟨_, rfl, hb6, ?_⟩
    replace E6 := hid (E6.out.trans hb6)
    clear hb6
    simp only [Act.put, pA, pB, pC]
    refine WE.p 26 (.bool true) ?_
    simp only [Act.put, pA, pB, pC]
    refine WE.done ?_
    replace E := hid (E.out.trans E6.out)
    go_wp2_with fail
    go_ret
    obtain rfl := HZ.out
    exact ⟨rfl, E.out⟩
   ·have HS2 := hid (show l.take (k + 1) = l'.take (k + 1) by
     have h2 := HQ.out
     unfold M.ksameS at h2
     have h3 := of_decide_eq_true h2
     rw [List.take_add_one, List.take_add_one, HX.out, HY.out, HS.out, h3])
    refine wp_region_D [(0, 0), (1, 0), (2, 0), (3, 0), (4, 0), (5, 0), (6, 0), (7, 0), (8, 1), (9, 0)] fun wd hb => ?_
    have E6 := hid hb
    replace c0 := hb.cell c0
    replace c1 := hb.cell c1
    replace c2 := hb.cell c2
    replace e0 := hb.cell e0
    replace e1 := hb.cell e1
    replace e2 := hb.cell e2
    clear hb
    refine WE.p 17 (.slice (some ad) n c) ?_
    simp only [Act.put, pA, pB, pC]
    refine WE.p 18 (.int .i64 (k : Int)) ?_
    simp only [Act.put, pA, pB, pC]
    refine WE.p 19 (.pointer (some (ad.add (k * 3)))) ?_
    simp only [Act.put, pA, pB, pC]
    refine WE.q 20 (sgv x.name B x.args.length d x.ret) rfl (fun w' hk => by have x0 := hk.cell c0; have x1 := hk.cell c1; have x2 := hk.cell c2; go_simp) ?_
    simp only [Act.put, pA, pB, pC]
    refine WE.p 21 (.slice (some ad') n c') ?_
    simp only [Act.put, pA, pB, pC]
    refine WE.p 22 (.int .i64 (k : Int)) ?_
    simp only [Act.put, pA, pB, pC]
    refine WE.p 23 (.pointer (some (ad'.add (k * 3)))) ?_
    simp only [Act.put, pA, pB, pC]
    refine WE.q 24 (sgv y.name B' y.args.length d' y.ret) rfl (fun w' hk => by have x0 := hk.cell e0; have x1 := hk.cell e1; have x2 := hk.cell e2; go_simp) ?_
    simp only [Act.put, pA, pB, pC]
    refine WE.c 25 ((HC.out _ E6.out).mono ?_)
    rintro e w6 ⟨rfl, hb6⟩
    refine ⟨_, rfl, hb6, ?_⟩
    replace E6 := hid (E6.out.trans hb6)
    clear hb6
    simp only [Act.put, pA, pB, pC]
    refine WE.p 26 (.bool false) ?_
    simp only [Act.put, pA, pB, pC]
    refine WE.done ?_
    replace E := hid (E.out.trans E6.out)
    go_wp2_with fail
    go_roundw
    case rel => exact ⟨k + 1, by simp, by omega, HS2.out, E.out⟩
    case measure => simp [intOf]; omega
  ·obtain rfl : n = k := by omega
   have HZ := hid (show true = z by
    have h1 := HS.out
    rw [← HN.out, List.take_length, HN.out, ← HN'.out, List.take_length] at h1
    rw [← HZ1.out, decide_eq_true h1])
   go_wp2
   go_ret
   obtain rfl := HZ.out
   exact ⟨rfl, E.out⟩
end Go.Proofs.YtaoboilkpgphaaaDoor.Q
