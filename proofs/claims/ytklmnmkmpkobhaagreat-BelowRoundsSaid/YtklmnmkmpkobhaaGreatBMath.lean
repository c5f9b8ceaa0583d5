/-
  Constraints: their normal form, their opposite; words for them.
-/
import Derived.Test.YtklmnmkmpkobhaaGreatLOpen
import Derived.Test.YtklmnmkmpkobhaaGreatLFacM
namespace Go.Proofs.YtklmnmkmpkobhaaGreat
open Go.RowKit
set_option linter.unusedSimpArgs false
set_option linter.unusedVariables false

namespace M
theorem gcdF_dvd (t : Tm) (a : Nat) : (t.foldl (fun g x => Nat.gcd g x.2.natAbs) a) ∣ a ∧ ∀ x ∈ t, (t.foldl (fun g x => Nat.gcd g x.2.natAbs) a) ∣ x.2.natAbs := by
 induction t generalizing a with
 | nil => exact ⟨Nat.dvd_refl _, fun x hx => by simp at hx⟩
 | cons y r ih =>
  rw [List.foldl_cons]
  obtain ⟨h1, h2⟩ := ih (Nat.gcd a y.2.natAbs)
  refine ⟨Nat.dvd_trans h1 (Nat.gcd_dvd_left _ _), fun x hx => ?_⟩
  rcases List.mem_cons.1 hx with rfl | hx
  ·exact Nat.dvd_trans h1 (Nat.gcd_dvd_right _ _)
  ·exact h2 x hx
theorem gcdT_dvd {t : Tm} {x : Int × Int} (h : x ∈ t) : (gcdT t : Int) ∣ x.2 := Int.ofNat_dvd_left.2 ((gcdF_dvd t 0).2 x h)
theorem gcdT_pos {t : Tm} {lo : Int} (h : okT lo t) (hn : t ≠ []) : 0 < gcdT t := by
 cases t with
 | nil => exact absurd rfl hn
 | cons y r =>
  have hd := (gcdF_dvd (y :: r) 0).2 y (by simp)
  rcases Nat.eq_zero_or_pos (gcdT (y :: r)) with e | e
  ·exfalso
   unfold gcdT at e
   rw [e] at hd
   exact h.2.1 (Int.natAbs_eq_zero.1 (Nat.eq_zero_of_zero_dvd hd))
  ·exact e
/-- What a constraint's terms are divided by. -/
def cm (t : Tm) : Nat := if t = [] then 1 else gcdT t
theorem cm_pos {t : Tm} {lo : Int} (h : okT lo t) : 0 < (cm t : Int) := by
 unfold cm
 split
 ·decide
 ·next hn => have := gcdT_pos h hn; omega
theorem cm_dvd {t : Tm} {x : Int × Int} (h : x ∈ t) : (cm t : Int) ∣ x.2 := by
 unfold cm
 rw [if_neg (by intro e; rw [e] at h; simp at h)]
 exact gcdT_dvd h
def dmap (t : Tm) (g : Int) : Tm := t.map fun x => (x.1, x.2 / g)
theorem dmap_snoc (t : Tm) (v x g : Int) : dmap (t ++ [(v, x)]) g = dmap t g ++ [(v, x / g)] := by unfold dmap; rw [List.map_append]; rfl
theorem dmap_len (t : Tm) (g : Int) : (dmap t g).length = t.length := by unfold dmap; rw [List.length_map]
theorem down_exact {x g : Int} (hg : 0 < g) : x.fdiv g = x / g := Int.fdiv_eq_ediv_of_nonneg _ (Int.le_of_lt hg)
theorem up_exact {x g : Int} (hg : 0 < g) (hd : g ∣ x) : -((-x).fdiv g) = x / g := by
 obtain ⟨q, rfl⟩ := hd
 rw [down_exact hg, ← Int.mul_neg, Int.mul_ediv_cancel_left _ (by omega), Int.mul_ediv_cancel_left _ (by omega), Int.neg_neg]
theorem okT_dmap {lo : Int} {t : Tm} (h : okT lo t) {g : Int} (hg : 0 < g) (hd : ∀ x ∈ t, g ∣ x.2) : okT lo (dmap t g) := by
 induction t generalizing lo with
 | nil => trivial
 | cons y r ih =>
  refine ⟨h.1, ?_, ih h.2.2 fun x hx => hd x (by simp [hx])⟩
  obtain ⟨q, hq⟩ := hd y (by simp)
  show y.2 / g ≠ 0
  rw [hq, Int.mul_ediv_cancel_left _ (by omega)]
  intro e
  exact h.2.1 (by show y.2 = 0; rw [hq, e, Int.mul_zero])
theorem width_div {x : Int} (g : Int) {W : Nat} (h : (limbs x.natAbs).length ≤ W) : (limbs (x / g).natAbs).length ≤ W :=
 limbs_of (Nat.lt_of_le_of_lt (Int.natAbs_ediv_le_natAbs _ _) (limbs_lt h))
theorem dmap_width {t : Tm} {W : Nat} (h : ∀ x ∈ t, (limbs x.2.natAbs).length ≤ W) (g : Int) : ∀ x ∈ dmap t g, (limbs x.2.natAbs).length ≤ W := by
 intro x hx
 obtain ⟨y, hy, rfl⟩ := List.mem_map.1 hx
 exact width_div g (h y hy)
/-- A constraint's normal form, and its class. -/
def nT (t : Tm) : Tm := dmap t (cm t)
def nK (t : Tm) (κ : Int) : Int := -((-κ).fdiv (cm t))
def nC (t : Tm) (κ : Int) : Int := if t = [] then (if κ ≤ 0 then 2 else 3) else 1
theorem nK_nil (κ : Int) : nK [] κ = κ := by
 unfold nK
 rw [show cm [] = 1 from rfl]
 show -((-κ).fdiv 1) = κ
 rw [Int.fdiv_one, Int.neg_neg]
theorem nC_nil (κ : Int) : nC [] κ = if κ ≤ 0 then 2 else 3 := by unfold nC; rw [if_pos rfl]
theorem nC_some {t : Tm} (h : t ≠ []) (κ : Int) : nC t κ = 1 := by unfold nC; rw [if_neg h]
theorem nT_nil : nT [] = [] := rfl
theorem cm_some {t : Tm} (h : t ≠ []) : cm t = gcdT t := by unfold cm; rw [if_neg h]
theorem okT_nT {lo : Int} {t : Tm} (h : okT lo t) : okT lo (nT t) := okT_dmap h (cm_pos h) fun _ hx => cm_dvd hx
theorem nT_len (t : Tm) : (nT t).length = t.length := dmap_len _ _
theorem atT_dmap (f : Int → Int) {t : Tm} {g : Int} (hg : 0 < g) (hd : ∀ x ∈ t, g ∣ x.2) : atT f t = g * atT f (dmap t g) := by
 induction t with
 | nil => rw [show dmap [] g = [] from rfl, atT_nil, Int.mul_zero]
 | cons y r ih =>
  obtain ⟨v, c⟩ := y
  obtain ⟨q, hq⟩ := hd (v, c) (by simp)
  have hq' : c = g * q := hq
  rw [show dmap ((v, c) :: r) g = (v, c / g) :: dmap r g from rfl, atT_cons, atT_cons, ih fun x hx => hd x (by simp [hx]), hq', Int.mul_ediv_cancel_left _ (by omega), Int.mul_add, Int.mul_assoc]
theorem norm_holds (f : Int → Int) {lo : Int} {t : Tm} (h : okT lo t) (κ : Int) : (nK t κ + atT f (nT t) ≤ 0) ↔ (κ + atT f t ≤ 0) := by
 have hg := cm_pos h
 rw [atT_dmap f hg fun _ hx => cm_dvd hx]
 unfold nK nT
 rw [down_exact hg]
 have key := Int.le_ediv_iff_mul_le (a := atT f (dmap t (cm t))) (b := -κ) hg
 rw [Int.mul_comm] at key
 constructor
 ·intro h1
  have := key.1 (by omega)
  omega
 ·intro h1
  have := key.2 (by omega)
  omega
theorem gcdF_dmap {t : Tm} {g : Int} (hg : 0 < g) (hd : ∀ x ∈ t, g ∣ x.2) (a : Nat) : t.foldl (fun d x => Nat.gcd d x.2.natAbs) (g.natAbs * a) = g.natAbs * (dmap t g).foldl (fun d x => Nat.gcd d x.2.natAbs) a := by
 induction t generalizing a with
 | nil => rfl
 | cons y r ih =>
  obtain ⟨v, c⟩ := y
  obtain ⟨q, hq⟩ := hd (v, c) (by simp)
  have hq' : c = g * q := hq
  rw [show dmap ((v, c) :: r) g = (v, c / g) :: dmap r g from rfl, List.foldl_cons, List.foldl_cons, ← ih fun x hx => hd x (by simp [hx])]
  congr 1
  show Nat.gcd (g.natAbs * a) c.natAbs = g.natAbs * Nat.gcd a (c / g).natAbs
  rw [hq', Int.mul_ediv_cancel_left _ (by omega), Int.natAbs_mul, Nat.gcd_mul_left]
theorem cm_nT {lo : Int} {t : Tm} (h : okT lo t) : cm (nT t) = 1 := by
 by_cases hn : t = []
 ·subst hn; rfl
 ·have hg := cm_pos h
  have hn' : nT t ≠ [] := fun e => hn (by have := congrArg List.length e; rw [nT_len] at this; exact List.length_eq_zero_iff.1 this)
  rw [cm_some hn']
  have e := gcdF_dmap hg (fun _ hx => cm_dvd hx) (t := t) 0
  rw [Nat.mul_zero] at e
  have e2 : cm t = (cm t : Int).natAbs * gcdT (nT t) := by
   conv => lhs; rw [cm_some hn]
   exact e
  rw [Int.natAbs_natCast] at e2
  have hp : 0 < cm t := by omega
  have : cm t * 1 = cm t * gcdT (nT t) := by rw [Nat.mul_one]; exact e2
  exact (Nat.eq_of_mul_eq_mul_left hp this).symm
theorem dmap_one (t : Tm) : dmap t 1 = t := by
 unfold dmap
 have : (fun x : Int × Int => (x.1, x.2 / 1)) = id := by funext x; rw [Int.ediv_one]; rfl
 rw [this, List.map_id]
theorem nT_nT {lo : Int} {t : Tm} (h : okT lo t) : nT (nT t) = nT t := by
 conv => lhs; unfold nT
 rw [show cm (dmap t (cm t)) = 1 from cm_nT h]
 exact dmap_one _
theorem nK_nK {lo : Int} {t : Tm} (h : okT lo t) (κ : Int) : nK (nT t) κ = κ := by
 unfold nK
 rw [cm_nT h]
 show -((-κ).fdiv 1) = κ
 rw [Int.fdiv_one, Int.neg_neg]
theorem nC_nT {lo : Int} {t : Tm} (h : okT lo t) (κ : Int) : nC (nT t) (nK t κ) = nC t κ := by
 by_cases hn : t = []
 ·subst hn; rw [nT_nil, nK_nil]
 ·have hn' : nT t ≠ [] := fun e => hn (by have := congrArg List.length e; rw [nT_len] at this; exact List.length_eq_zero_iff.1 this)
  rw [nC_some hn, nC_some hn']
theorem not_holds (f : Int → Int) (t : Tm) (κ : Int) : (1 + κ * -1 + atT f (scaleT t (-1)) ≤ 0) ↔ ¬ (κ + atT f t ≤ 0) := by
 rw [atT_scaleT]; omega
theorem not_not (t : Tm) (κ : Int) : scaleT (scaleT t (-1)) (-1) = t ∧ 1 + (1 + κ * -1) * -1 = κ := by
 refine ⟨?_, by omega⟩
 unfold scaleT
 rw [if_neg (by decide), if_neg (by decide), List.map_map]
 have : ((fun x : Int × Int => (x.1, x.2 * -1)) ∘ fun x : Int × Int => (x.1, x.2 * -1)) = id := by
  funext x
  show (x.1, x.2 * -1 * -1) = x
  rw [Int.mul_assoc]; simp
 rw [this, List.map_id]
theorem sign_le (z : Int) : decide (z.sign ≤ 0) = decide (z ≤ 0) := by
 rcases Int.lt_trichotomy z 0 with h | h | h
 ·rw [Int.sign_eq_neg_one_of_neg h, decide_eq_true (by omega), decide_eq_true (by omega)]
 ·subst h; rfl
 ·rw [Int.sign_eq_one_of_pos h, decide_eq_false (by omega), decide_eq_false (by omega)]
theorem sign_gt (z : Int) : decide (0 < z.sign) = decide (0 < z) := by
 rcases Int.lt_trichotomy z 0 with h | h | h
 ·rw [Int.sign_eq_neg_one_of_neg h, decide_eq_false (by omega), decide_eq_false (by omega)]
 ·subst h; rfl
 ·rw [Int.sign_eq_one_of_pos h, decide_eq_true (by omega), decide_eq_true (by omega)]
/-- Whether a constraint holds at a point. -/
def hl (f : Int → Int) (x : Tm × Int) : Bool := decide (x.2 + atT f x.1 ≤ 0)
theorem all_take_false {α : Type} {p : α → Bool} {l : List α} {k : Nat} {x : α} (h : l[k]? = some x) (hp : p x = false) : l.all p = false :=
 List.all_eq_false.2 ⟨x, List.mem_of_getElem? h, by rw [hp]; decide⟩
end M
/-- A call that gives a form and a number. -/
def GivesNC (w : World) (t : M.Tm) (κ : Int) (c : Int) (W : Nat) (e : Ending) (w' : World) : Prop := ∃ v, e = .returned (.tuple #[v, .int .i64 c]) ∧ IsL w' v t κ W ∧ Ext w w'
/-- Forms in memory, whatever they count as. -/
def WList (w : World) (v : Value) (fs : List (M.Tm × Int)) (W : Nat) : Prop :=
 ∃ A n c, v = .slice A n c ∧ n = fs.length ∧ n ≤ c ∧ c ≤ maxLen ∧ ∀ k x, fs[k]? = some x → ∃ ad, A = some ad ∧ ad.block < w.heap.size ∧ ∃ B p q g C m d, w.cell? (ad.add (k * 3)) = some (.slice B p q) ∧ w.cell? ((ad.add (k * 3)).add 1) = some (.bool g) ∧ w.cell? ((ad.add (k * 3)).add 2) = some (.slice C m d) ∧ WorthL w (.agg #[.slice B p q, .bool g, .slice C m d]) x.1 x.2 W
theorem WList.up {w w' : World} {v : Value} {fs : List (M.Tm × Int)} {W : Nat} (h : WList w v fs W) (e : Ext w w') : WList w' v fs W := by
 obtain ⟨A, n, c, h1, h2, h3, h4, h5⟩ := h
 refine ⟨A, n, c, h1, h2, h3, h4, fun k x hx => ?_⟩
 obtain ⟨ad, ha, hb, B, p, q, g, C, m, d, k1, k2, k3, k4⟩ := h5 k x hx
 exact ⟨ad, ha, Nat.lt_of_lt_of_le hb e.size, B, p, q, g, C, m, d, by rw [e.below.cell (by rw [addr_block]; exact hb)]; exact k1, by rw [e.below.cell (by rw [addr_block, addr_block]; exact hb)]; exact k2, by rw [e.below.cell (by rw [addr_block, addr_block]; exact hb)]; exact k3, k4.up e⟩
theorem WList.shape {w : World} {v : Value} {fs : List (M.Tm × Int)} {W : Nat} (h : WList w v fs W) : ∃ A n c, v = .slice A n c := by
 obtain ⟨A, n, c, h, _⟩ := h; exact ⟨A, n, c, h⟩
theorem WList.count {w : World} {A : Option Addr} {n c W : Nat} {fs : List (M.Tm × Int)} (h : WList w (.slice A n c) fs W) : n = fs.length ∧ n ≤ c ∧ n ≤ 9223372036854775807 := by
 obtain ⟨A', n', c', e, hn, hc, hm, _⟩ := h
 injection e with e1 e2 e3
 unfold maxLen at hm
 exact ⟨by omega, by omega, by omega⟩
theorem WList.get {w : World} {A : Option Addr} {n c W : Nat} {fs : List (M.Tm × Int)} (h : WList w (.slice A n c) fs W) {k : Nat} {x : M.Tm × Int} (hk : fs[k]? = some x) :
 ∃ ad B p q g C m d, A = some ad ∧ CellAt w (ad.add (k * 3)) (.slice B p q) ∧ CellAt w ((ad.add (k * 3)).add 1) (.bool g) ∧ CellAt w ((ad.add (k * 3)).add 2) (.slice C m d) ∧ WorthL w (.agg #[.slice B p q, .bool g, .slice C m d]) x.1 x.2 W := by
 obtain ⟨A', n', c', e, hn, hc, hm, hz⟩ := h
 injection e with e1 e2 e3
 subst e1
 obtain ⟨ad, ha, _, B, p, q, g, C, m, d, k1, k2, k3, k4⟩ := hz k x hk
 exact ⟨ad, B, p, q, g, C, m, d, ha, k1, k2, k3, k4⟩
theorem WList.nil (w : World) (c : Nat) (hc : c ≤ maxLen) (A : Option Addr) (W : Nat) : WList w (.slice A 0 c) [] W := ⟨A, 0, c, rfl, rfl, Nat.zero_le _, hc, fun k x hx => by simp at hx⟩
theorem wlist1 {w : World} {g : Nat} {T : TypeId} {A0 B0 : Option Addr} {n0 c0 m0 d0 : Nat} {g0 : Bool} {t : M.Tm} {κ : Int} {W : Nat} (hb : Box w g #[.slice A0 n0 c0, .bool g0, .slice B0 m0 d0] T) (h0 : WorthL w (.agg #[.slice A0 n0 c0, .bool g0, .slice B0 m0 d0]) t κ W) :
 WList w (.slice (some ⟨g, 0, none⟩) 1 1) [(t, κ)] W := by
 refine ⟨_, _, _, rfl, rfl, Nat.le_refl _, by unfold maxLen; omega, fun k x hk => ⟨_, rfl, hb.lt, ?_⟩⟩
 rcases k with _ | k
 ·simp at hk; subst hk
  exact ⟨_, _, _, _, _, _, _, by rw [Addr.add_lit]; exact hb.cell rfl, by rw [Addr.add_lit, Addr.add_lit]; exact hb.cell rfl, by rw [Addr.add_lit, Addr.add_lit]; exact hb.cell rfl, h0⟩
 ·simp at hk
theorem wlist2 {w : World} {g : Nat} {T : TypeId} {A0 B0 A1 B1 : Option Addr} {n0 c0 m0 d0 n1 c1 m1 d1 : Nat} {g0 g1 : Bool} {t s : M.Tm} {κ μ : Int} {W : Nat} (hb : Box w g #[.slice A0 n0 c0, .bool g0, .slice B0 m0 d0, .slice A1 n1 c1, .bool g1, .slice B1 m1 d1] T) (h0 : WorthL w (.agg #[.slice A0 n0 c0, .bool g0, .slice B0 m0 d0]) t κ W) (h1 : WorthL w (.agg #[.slice A1 n1 c1, .bool g1, .slice B1 m1 d1]) s μ W) :
 WList w (.slice (some ⟨g, 0, none⟩) 2 2) [(t, κ), (s, μ)] W := by
 refine ⟨_, _, _, rfl, rfl, Nat.le_refl _, by unfold maxLen; omega, fun k x hk => ⟨_, rfl, hb.lt, ?_⟩⟩
 rcases k with _ | _ | k
 ·simp at hk; subst hk
  exact ⟨_, _, _, _, _, _, _, by rw [Addr.add_lit]; exact hb.cell rfl, by rw [Addr.add_lit, Addr.add_lit]; exact hb.cell rfl, by rw [Addr.add_lit, Addr.add_lit]; exact hb.cell rfl, h0⟩
 ·simp at hk; subst hk
  exact ⟨_, _, _, _, _, _, _, by rw [Addr.add_lit]; exact hb.cell rfl, by rw [Addr.add_lit, Addr.add_lit]; exact hb.cell rfl, by rw [Addr.add_lit, Addr.add_lit]; exact hb.cell rfl, h1⟩
 ·simp at hk
theorem IsL.okT {w : World} {v : Value} {t : M.Tm} {κ : Int} {W : Nat} (h : IsL w v t κ W) : M.okT (-1) t := by
 obtain ⟨A, n, c, g, B, m, d, _, _, _, h4⟩ := h; exact h4
theorem WorthL.okB {w : World} {v : Value} {t : M.Tm} {κ : Int} {W : Nat} (h : WorthL w v t κ W) : M.okT (-1) t := by
 obtain ⟨A, n, c, ls, g, B, m, d, l, rfl, _, _, _, _, rfl, _⟩ := h
 unfold M.ft
 split
 ·next hb => unfold M.isL at hb; rw [Bool.and_eq_true] at hb; exact (M.isT_ok hb.1).1
 ·trivial
theorem IsL.counts {w : World} {A B : Option Addr} {n c m d W : Nat} {g : Bool} {t : M.Tm} {κ : Int} (h : IsL w (.agg #[.slice A n c, .bool g, .slice B m d]) t κ W) : n = t.length ∧ n ≤ 9223372036854775807 := by
 obtain ⟨A', n', c', g', B', m', d', e, h1, _, _⟩ := h
 simp at e
 obtain ⟨⟨rfl, rfl, rfl⟩, rfl, rfl, rfl, rfl⟩ := e
 exact ⟨h1.count.1, h1.count.2.2⟩
theorem IsL.parts {w : World} {A B : Option Addr} {n c m d W : Nat} {g : Bool} {t : M.Tm} {κ : Int} (h : IsL w (.agg #[.slice A n c, .bool g, .slice B m d]) t κ W) : LTm w (.slice A n c) t W ∧ IsZ w (.agg #[.bool g, .slice B m d]) κ W ∧ M.okT (-1) t := by
 obtain ⟨A', n', c', g', B', m', d', e, h1, h2, h3⟩ := h
 simp at e
 obtain ⟨⟨rfl, rfl, rfl⟩, rfl, rfl, rfl, rfl⟩ := e
 exact ⟨h1, h2, h3⟩
theorem by_post {w : World} {base W : Nat} {A B : Option Addr} {n c m d : Nat} {g : Bool} {t p : M.Tm} {κ Y : Int} (e : p = t) (o : LOwn base w (.slice A n c) ((M.dmap p Y).map M.rawm)) (ow : ∀ x ∈ t, (M.limbs x.2.natAbs).length ≤ W) (q : IsZ w (.agg #[.bool g, .slice B m d]) κ W) (h : M.okT (-1) t) (hy : 0 < Y) (hd : ∀ x ∈ t, Y ∣ x.2) :
 IsL w (.agg #[.slice A n c, .bool g, .slice B m d]) (M.dmap t Y) κ W := by
 subst e
 exact ⟨_, _, _, _, _, _, _, rfl, o.tm (M.dmap_width ow Y), q, M.okT_dmap h hy hd⟩

end Go.Proofs.YtklmnmkmpkobhaaGreat
