/-
  Layer 12, mathematics: structures, what terms are worth.
-/
import Derived.Test.YtkhmgdfhggejaaaGreatDoorWJKC
namespace Go.Proofs.YtkhmgdfhggejaaaGreatDoor.Q
set_option linter.unusedSimpArgs false
set_option linter.unusedVariables false
namespace M
abbrev Vl := Int × Bool × List Nat
def cz (x : Vl) : Int := M.zv x.2.1 x.2.2
def vz (s Z : Int) : Vl := (s, decide (Z < 0), M.limbs Z.natAbs)
theorem cz_vz (s Z : Int) : cz (vz s Z) = Z := M.zv_of Z
def canon (x : Vl) : Prop := x.2.1 = decide (cz x < 0) ∧ x.2.2 = M.limbs (cz x).natAbs
theorem canon_isZ {x : Vl} (h : M.isZ x.2.1 x.2.2 = true) : canon x := ⟨(M.zv_lt h).symm, (M.limbs_zv h).symm⟩
def vSame (x y : Vl) : Bool := decide (x.1 = y.1) && decide (cz x = cz y)
def vSames : List Vl → List Vl → Bool
 | [], [] => true
 | x :: r, y :: s => vSame x y && vSames r s
 | _, _ => false
def vIs (x : Vl) (s : Int) : Bool := decide (x.1 = s) && (M.isZ x.2.1 x.2.2 && (decide (s = 2) || (decide (cz x = 0) || decide (cz x = 1))))
def vIss : List Vl → List Int → Bool
 | [], [] => true
 | x :: r, s :: q => vIs x s && vIss r q
 | _, _ => false
structure Fn where
 sg : Sg
 rows : List (List Vl × Vl)
 els : Vl
def fnIs (f : Fn) : Bool := ksig f.sg && (vIs f.els f.sg.ret && f.rows.all fun r => vIss r.1 f.sg.args && vIs r.2 f.sg.ret)
def okAt (l : List Fn) (k : Nat) : Bool := match l[k]? with | none => true | some f => (decide (k = 0) || (match l[k - 1]? with | none => true | some g => Go.Op.bytesLess g.sg.name f.sg.name)) && fnIs f
def mIs (l : List Fn) : Bool := (List.range l.length).all (okAt l)
theorem mIs_true {l : List Fn} : mIs l = true ↔ ∀ k, k < l.length → okAt l k = true := by
 unfold mIs
 rw [List.all_eq_true]
 simp
theorem not_mIs {l : List Fn} {k : Nat} (hk : k < l.length) (h : okAt l k = false) : mIs l = false := by
 rcases hq : mIs l with _ | _
 ·rfl
 ·rw [mIs_true.1 hq k hk] at h; cases h
def mRead (m : List Fn) : List Fn := if mIs m = true then m else []
def mOf (m : List Fn) (s : Sg) (l : List Vl) : Vl :=
 match m.find? fun f => decide (f.sg = s) with
 | none => (s.ret, false, [])
 | some f => match f.rows.find? fun r => vSames r.1 l with
  | some r => r.2
  | none => f.els
def mSum (l : List Int) : Int := l.foldl (· + ·) 0
def mReck (op : Int) (l : List Int) : Int :=
 if op = 13 then mSum l else if op = 14 then (match l with | [] => 0 | [a] => -a | a :: r => a - mSum r)
 else if op = 15 then l.getD 0 0 * l.getD 1 0 else if op = 18 then ((l.getD 0 0).natAbs : Int)
 else if op = 16 then (l.getD 0 0) / (l.getD 1 0) else (l.getD 0 0) % (l.getD 1 0)
def vHolds (x : Vl) : Bool := decide (0 < cz x)
def vDist : List Vl → Bool
 | [] => true
 | x :: r => !(r.any fun y => vSame x y) && vDist r
def mTold (op : Int) (v : List Vl) : Bool :=
 let x := v.getD 0 (0, false, [])
 let y := v.getD 1 (0, false, [])
 if op = 5 then !vHolds x else if op = 6 then v.all vHolds else if op = 7 then v.any vHolds else if op = 9 then !vHolds x || vHolds y
 else if op = 10 then vSame x y else if op = 8 ∨ op = 11 then vDist v
 else if op = 19 then decide (cz x ≤ cz y) else if op = 20 then decide (cz x < cz y) else if op = 21 then decide (cz y ≤ cz x) else decide (cz y < cz x)
def vTruth (b : Bool) : Vl := if b = true then vz 1 1 else (1, false, [])
mutual
def ev (m : List Fn) : Tm → Vl
 | .mk op g ls nm s ks =>
  if op = 1 then (2, g, ls) else if op = 2 then vTruth true else if op = 3 then vTruth false
  else if op = 4 then mOf m ⟨nm, (evs m ks).map (·.1), s⟩ (evs m ks)
  else if op = 12 then (if vHolds ((evs m ks).getD 0 (0, false, [])) = true then (evs m ks).getD 1 (0, false, []) else (evs m ks).getD 2 (0, false, []))
  else if s = 2 then vz 2 (mReck op ((evs m ks).map cz)) else vTruth (mTold op (evs m ks))
def evs (m : List Fn) : List Tm → List Vl
 | [] => []
 | t :: r => ev m t :: evs m r
end
theorem evs_map (m : List Fn) : ∀ l, evs m l = l.map (ev m)
 | [] => rfl
 | t :: r => by rw [evs, List.map_cons, evs_map m r]
def mEval (m : List Fn) (t : Tm) : Vl := if kIs t = true then ev (mRead m) t else (1, false, [])
def mTrue (m : List Fn) (l : List Tm) : Bool := l.all fun t => vSame (mEval m t) (vTruth true)
def mPut (m : List Fn) (f : Fn) : List Fn := (m.takeWhile fun g => Go.Op.bytesLess g.sg.name f.sg.name) ++ f :: ((m.dropWhile fun g => Go.Op.bytesLess g.sg.name f.sg.name).dropWhile fun g => decide (g.sg.name = f.sg.name))
end M
end Go.Proofs.YtkhmgdfhggejaaaGreatDoor.Q
