/-
  Contract: the guess of a quotient's digit.
-/
import Derived.Test.YtljjijcmoafndaaDivRow
import Derived.Test.YtljjijcmoafndaaDiv64
import Derived.Laws.Externs
namespace Go.Proofs.Ytljjijcmoafndaa
set_option linter.unusedSimpArgs false
set_option linter.unusedVariables false
open Go.RowKit

theorem add64_run (x y : Nat) (w : World) : (callFunc 97 #[.int .u64 (x : Int), .int .u64 (y : Int), .int .u64 0]).run Try.prog w =
    .ok (.value (.tuple #[.int .u64 (((x + y) % 18446744073709551616 : Nat) : Int), .int .u64 (((x + y) / 18446744073709551616 : Nat) : Int)])) w := by
  rw [run_callFunc_extern Try.func97 (by kernel_rfl) (by kernel_rfl) (by kernel_rfl) (e := add64Entry) (by kernel_rfl), run_add64 (x : Int) (y : Int) 0 (by omega) (by omega) (by omega) (by omega)]
  simp only [Result.andThen]
  congr 5 <;> omega

theorem add_next (ad : Addr) (k : Nat) : (⟨(ad.add k).block, (ad.add k).off + 1, none⟩ : Addr) = ad.add (k + 1) := by
  rw [← Addr.add_add ad k 1]; simp [Addr.add]
theorem quiet_more {P : Program} {f : FuncId} {args : Array Value} {w : World} {a n : Nat} {v : Value}
    (h : Calls P f args (w.drewN (a + n)) fun e w' => e = .returned v ∧ ∃ m, w' = (w.drewN (a + n)).drewN m) :
    Calls P f args (w.drewN (a + n)) fun e w'' => e = .returned v ∧ ∃ m, w'' = w.drewN (a + m) :=
  h.mono fun _ _ ⟨he, m, hm⟩ => ⟨he, n + m, by rw [hm, World.drewN_drewN, Nat.add_assoc]⟩

theorem guess_any (w : World) (g o k cp c' : Nat) (ad : Addr) (x0 x1 x2 y0 y1 : Nat) (hk : k ≤ 100000000) (ho9 : o ≤ 100000000) (hcp : k + 3 ≤ cp) (hc' : k + 2 ≤ c') (hcp9 : cp ≤ 1000000000) (hc9 : c' ≤ 9223372036854775807)
    (h0 : w.cell? ⟨g, o + k, none⟩ = some (.int .u32 (x0 : Int))) (h1 : w.cell? ⟨g, o + k + 1, none⟩ = some (.int .u32 (x1 : Int))) (h2 : w.cell? ⟨g, o + k + 2, none⟩ = some (.int .u32 (x2 : Int)))
    (b0 : w.cell? (ad.add k) = some (.int .u32 (y0 : Int))) (b1 : w.cell? ⟨(ad.add k).block, (ad.add k).off + 1, none⟩ = some (.int .u32 (y1 : Int)))
    (hx0 : (x0 : Int) < 1000000000) (hx1 : (x1 : Int) < 1000000000) (hx2 : (x2 : Int) < 1000000000) (hy0 : (y0 : Int) < 1000000000) (hy1 : (y1 : Int) < 1000000000) (hy : Hid (1 ≤ y1))
    (hlt : Hid (x2 * 1000000000000000000 + x1 * 1000000000 + x0 < (y1 * 1000000000 + y0 + 1) * 1000000000)) :
    Calls Try.prog 93 #[.slice (some ⟨g, o, none⟩) (k + 3) cp, .slice (some ad) (k + 2) c'] w fun e w' =>
      e = .returned (.int .u64 (((x2 * 1000000000000000000 + x1 * 1000000000 + x0) / (y1 * 1000000000 + y0) : Nat) : Int)) ∧ ∃ d, w' = w.drewN d := by
  obtain ⟨hi, hhi⟩ : ∃ hi, hi = x2 * 1000000000000000000 / 18446744073709551616 := ⟨_, rfl⟩
  obtain ⟨lo, hlo⟩ : ∃ lo, lo = x2 * 1000000000000000000 % 18446744073709551616 := ⟨_, rfl⟩
  obtain ⟨m, hm⟩ : ∃ m, m = x1 * 1000000000 + x0 := ⟨_, rfl⟩
  obtain ⟨lo2, hlo2⟩ : ∃ l, l = (lo + m) % 18446744073709551616 := ⟨_, rfl⟩
  obtain ⟨cr, hcr⟩ : ∃ c, c = (lo + m) / 18446744073709551616 := ⟨_, rfl⟩
  obtain ⟨h2', hh2⟩ : ∃ h, h = hi + cr := ⟨_, rfl⟩
  obtain ⟨Y, hY⟩ : ∃ Y, Y = y1 * 1000000000 + y0 := ⟨_, rfl⟩
  obtain ⟨X, hX⟩ : ∃ X, X = x2 * 1000000000000000000 + x1 * 1000000000 + x0 := ⟨_, rfl⟩
  have hXX : h2' * 18446744073709551616 + lo2 = X := by omega
  have hYlo : 1000000000 ≤ Y := by have := hy.out; omega
  have hXY : X < Y * 18446744073709551616 := by have h := hlt.out; rw [← hX, ← hY] at h; exact M.gC h hYlo
  have hmul := Try.bits_Mul64 x2 1000000000000000000 (by omega) (by omega) w
  rw [← hhi, ← hlo] at hmul
  have hadd := fun W => add64_run lo m W
  rw [← hlo2, ← hcr] at hadd
  obtain ⟨r, hdiv⟩ := div64_any h2' lo2 Y (by omega) (by omega) (by omega)
  rw [hXX] at hdiv
  rw [← hX, ← hY]
  have hmI : (x1 : Int) * 1000000000 + (x0 : Int) = (m : Int) := by omega
  have hYI : (y1 : Int) * 1000000000 + (y0 : Int) = (Y : Int) := by omega
  have hhI : (hi : Int) + (cr : Int) = (h2' : Int) := by omega
  have hwm := wrapN m (by omega)
  have hwY := wrapN Y (by omega)
  have hwh := wrapN h2' (by omega)
  have HMUL := hid (fun d => (show Calls Try.prog 96 #[.int .u64 (x2 : Int), .int .u64 1000000000000000000] (w.drewN d) fun e w' => e = .returned (.tuple #[.int .u64 (hi : Int), .int .u64 (lo : Int)]) ∧ w' = w.drewN d by
    have h := Try.bits_Mul64 x2 1000000000000000000 (by omega) (by omega) (w.drewN d)
    rw [← hhi, ← hlo] at h
    exact h))
  have HDIV := hid hdiv
  clear hmul hdiv hhi hlo hm hlo2 hcr hh2 hY hX hXX hYlo hXY hlt hy
  go_enter Try.func93, Try.ntmps93
  go_wp2
  go_quiet (fail)
  go_wp2_with fail
  refine (HMUL.out _).mono ?_
  rintro e w' ⟨rfl, rfl⟩
  go_wp2_with fail
  go_quiet (fail)
  go_wp2_with fail
  go_quiet ((go_at_call 98; exact quiet_more (HDIV.out _)))
  go_wp2
  go_ret
  exact ⟨rfl, drew3 _ _ _ _⟩
end Go.Proofs.Ytljjijcmoafndaa
