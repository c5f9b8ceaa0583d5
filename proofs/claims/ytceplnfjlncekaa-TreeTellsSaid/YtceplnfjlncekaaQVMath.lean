/-
  Layer 9, mathematics: the reader of one tree after another reads what the machine reads.
-/
import Derived.Test.YtceplnfjlncekaaQUMath
import Derived.Test.YtceplnfjlncekaaQTRead
namespace Go.Proofs.Ytceplnfjlncekaa
set_option linter.unusedSimpArgs false
set_option linter.unusedVariables false
namespace M
theorem drop_some {L : List Tok} {a : Nat} {t : Tok} (h : L[a]? = some t) : L.drop a = t :: L.drop (a + 1) := by
  obtain ⟨h1, h2⟩ := List.getElem?_eq_some_iff.1 h
  rw [List.drop_eq_getElem_cons h1, h2]
/-- What the machine does behind a reading of one tree. -/
def behind (L : List Tok) (cur : List T) (up : List (List T)) (r : R) : List T × Nat × Int :=
  if r.e = 0 then mach ⟨cur ++ [r.t], up, if up.isEmpty = true then 0 else r.n⟩ r.at_ (L.drop r.at_) else ([], r.at_, r.e)
theorem rd_mach : ∀ (f : Nat),
    (∀ (L : List Tok) (d a n : Nat) (cur : List T) (up : List (List T)), up.length = d → d ≤ 60 → n ≤ 400 → a ≤ L.length → 2 * (L.length - a) + 1 ≤ f → (up = [] → a < L.length) → (up ≠ [] → L[a]?.map (·.1) ≠ some 2) →
      mach ⟨cur, up, n⟩ a (L.drop a) = behind L cur up (rdT f L d a n)) ∧
    (∀ (L : List Tok) (d a n : Nat) (cur : List T) (up : List (List T)) (ks : List T), up.length = d → d < 60 → n ≤ 400 → a ≤ L.length → 2 * (L.length - a) + 2 ≤ f →
      mach ⟨ks, cur :: up, n⟩ a (L.drop a) = behind L cur up (rdK f L d a n ks)) := by
  intro f
  induction f with
  | zero => exact ⟨fun L d a n cur up _ _ _ _ h _ _ => by omega, fun L d a n cur up ks _ _ _ _ h => by omega⟩
  | succ f ih =>
    refine ⟨fun L d a n cur up hu hd hn ha hf he hk => ?_, fun L d a n cur up ks hu hd hn ha hf => ?_⟩
    · rw [rdT]
      rcases hL : L[a]? with _ | t
      · have h1 : L.length ≤ a := List.getElem?_eq_none_iff.1 hL
        rcases up with _ | ⟨u, r⟩
        · exact absurd (he rfl) (by omega)
        · rw [List.drop_eq_nil_of_le h1, mach]
          simp [behind]
      · rw [drop_some hL, mach]
        simp only
        by_cases h1 : t.1 < 1 ∨ 5 < t.1 ∨ t.1 = 2
        · rw [if_pos h1]
          have hft : fault ⟨cur, up, n⟩ t.1 = 10 := by
            unfold fault
            by_cases h2 : t.1 < 1 ∨ 5 < t.1
            · rw [if_pos h2]
            · rw [if_neg h2, if_pos]
              have h3 : t.1 = 2 := by omega
              refine ⟨h3, ?_⟩
              rcases up with _ | ⟨u, r⟩
              · rfl
              · exact absurd (by rw [hL]; simp [h3]) (hk (by simp))
          rw [hft]
          simp [behind]
        · rw [if_neg h1]
          by_cases h2 : t.1 = 1 ∧ 60 ≤ d
          · rw [if_pos h2]
            have hft : fault ⟨cur, up, n⟩ t.1 = 15 := by
              unfold fault
              rw [if_neg (by omega), if_neg (by omega), if_pos ⟨h2.1, by show up.length = 60; omega⟩]
            rw [hft]
            simp [behind]
          · rw [if_neg h2]
            by_cases h3 : 400 ≤ n
            · rw [if_pos h3]
              have hft : fault ⟨cur, up, n⟩ t.1 = 11 := by
                unfold fault
                rw [if_neg (by omega), if_neg (by omega), if_neg (by show ¬ (t.1 = 1 ∧ up.length = 60); omega), if_pos ⟨by omega, by show n = 400; omega⟩]
              rw [hft]
              simp [behind]
            · rw [if_neg h3]
              have hft : fault ⟨cur, up, n⟩ t.1 = 0 := by
                unfold fault
                rw [if_neg (by omega), if_neg (by omega), if_neg (by show ¬ (t.1 = 1 ∧ up.length = 60); omega), if_neg (by show ¬ (t.1 ≠ 2 ∧ n = 400); omega)]
              rw [hft, if_pos rfl]
              have hlt := (List.getElem?_eq_some_iff.1 hL).1
              by_cases h4 : t.1 = 1
              · rw [if_pos h4]
                have := ih.2 L d (a + 1) (n + 1) cur up [] hu (by omega) (by omega) (by omega) (by omega)
                rw [← this]
                unfold put
                rw [if_pos h4]
              · rw [if_neg h4]
                unfold put behind
                rw [if_neg h4, if_neg (by omega), if_pos rfl]
    · rw [rdK]
      by_cases hend : L[a]?.map (·.1) = some 2
      · obtain ⟨⟨kd, tx⟩, hLt, hkd⟩ := Option.map_eq_some_iff.1 hend
        replace hkd : kd = 2 := hkd
        subst hkd
        rw [if_pos hend, drop_some hLt, mach_right]
        unfold behind
        rw [if_pos rfl]
      · rw [if_neg hend]
        have h := ih.1 L (d + 1) a n ks (cur :: up) (by simp; omega) (by omega) hn ha (by omega) (fun h => by cases h) (fun _ => hend)
        have hb := (rd_bounds f).1 L (d + 1) a n ha hn
        obtain ⟨r, hr⟩ : ∃ r, rdT f L (d + 1) a n = r := ⟨_, rfl⟩
        rw [hr] at h hb ⊢
        rw [h]
        by_cases h0 : r.e = 0
        · rw [if_neg (by simpa using h0)]
          have := ih.2 L d r.at_ r.n cur up (ks ++ [r.t]) hu hd hb.2.2.2.1 hb.2.1 (by have := hb.2.2.2.2.1 h0; omega)
          rw [← this]
          unfold behind
          rw [if_pos h0]
          rfl
        · rw [if_pos h0]
          unfold behind
          rw [if_neg h0, if_neg h0]
theorem rdA_mach (L : List Tok) : ∀ (f a : Nat) (ts : List T), a ≤ L.length → L.length - a ≤ f → rdA f L a ts = mach ⟨ts, [], 0⟩ a (L.drop a)
  | 0, a, ts, h1, h2 => by
    rw [List.drop_eq_nil_of_le (by omega), rdA, mach]
    rfl
  | f + 1, a, ts, h1, h2 => by
    rw [rdA]
    by_cases h3 : L.length ≤ a
    · rw [if_pos h3, List.drop_eq_nil_of_le h3, mach]
      rfl
    · rw [if_neg h3]
      have h := (rd_mach (2 * L.length + 1)).1 L 0 a 0 ts [] rfl (by omega) (by omega) h1 (by omega) (fun _ => by omega) (fun h => absurd rfl h)
      have hb := (rd_bounds (2 * L.length + 1)).1 L 0 a 0 h1 (by omega)
      obtain ⟨r, hr⟩ : ∃ r, rdT (2 * L.length + 1) L 0 a 0 = r := ⟨_, rfl⟩
      rw [hr] at h hb ⊢
      rw [h]
      unfold behind
      by_cases h0 : r.e = 0
      · rw [if_neg (by simpa using h0), if_pos h0]
        rw [rdA_mach L f r.at_ (ts ++ [r.t]) hb.2.1 (by have := hb.2.2.2.2.1 h0; omega)]
        rfl
      · rw [if_pos h0, if_neg h0]
/-- The reader reads what the machine reads. -/
theorem readM_rdA (L : List Tok) : rdA L.length L 0 [] = readM L := by
  rw [rdA_mach L L.length 0 [] (by omega) (by omega)]
  rfl
end M
end Go.Proofs.Ytceplnfjlncekaa
