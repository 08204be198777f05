/-
  What depthsOf reckons in its second loops, plainly.
-/
import Derived.Test.YtkhbgdhgjbnhpaaU34
set_option linter.unusedVariables false
set_option linter.unusedSimpArgs false
namespace Go.Proofs.Ytkhbgdhgjbnhpaa
namespace Un
def nth (l : List Int) (i : Int) : Int := (l[i.toNat]?).getD 0
/-- depths, missing, done -/
structure Dst where
  de : List Int
  mi : List Int
  dn : List Int
deriving DecidableEq
def inR (x : Int) : Bool := decide (-1000000000000 ≤ x) && decide (x ≤ 1000000000000)
/-- one place: the element e has the variable v with a levels above it -/
def relaxOk (n : Nat) (v : Int) (x : Int × Int) (d : Dst) : Bool :=
  (decide (0 ≤ x.1) && decide (x.1 < n) && decide (0 ≤ v) && decide (v < n)) && (inR x.2 && inR (nth d.de v) && inR (nth d.de x.1) && inR (nth d.mi x.1)) && (decide (d.de.length = n) && decide (d.mi.length = n) && decide (d.dn.length ≤ 900000))
def relax1 (v : Int) (x : Int × Int) (d : Dst) : Dst :=
  { de := d.de.set x.1.toNat (max (nth d.de x.1) (x.2 + nth d.de v))
    mi := d.mi.set x.1.toNat (nth d.mi x.1 - 1)
    dn := if nth d.mi x.1 - 1 = 0 then d.dn ++ [x.1] else d.dn }
def relax (n : Nat) (v : Int) : List (Int × Int) → Dst → Option Dst
  | [], d => some d
  | x :: l, d => if relaxOk n v x d = true then relax n v l (relax1 v x d) else none
def spread (n : Nat) (pl : Nat → List (Int × Int)) : Nat → Nat → Dst → Option Dst
  | 0, _, _ => none
  | f + 1, next, d => match d.dn[next]? with
    | none => if d.dn.length ≤ 1000000 then some d else none
    | some v => if 0 ≤ v ∧ v < n ∧ d.dn.length ≤ 1000000 then (relax n v (pl v.toNat) d).bind (spread n pl f (next + 1)) else none
theorem relax_len {n : Nat} {v : Int} : ∀ {l : List (Int × Int)} {d d' : Dst}, relax n v l d = some d' → d'.de.length = d.de.length
  | [], d, d', h => by rw [relax] at h; cases h; rfl
  | x :: l, d, d', h => by
    rw [relax] at h
    split at h
    · rw [relax_len h, relax1]; simp
    · cases h
theorem spread_len {n : Nat} {pl : Nat → List (Int × Int)} : ∀ {f next : Nat} {d d' : Dst}, spread n pl f next d = some d' → d'.de.length = d.de.length
  | 0, _, _, _, h => by simp [spread] at h
  | f + 1, next, d, d', h => by
    rw [spread] at h
    split at h
    · split at h
      · cases h; rfl
      · cases h
    · split at h
      · obtain ⟨d1, h1, h2⟩ := Option.bind_eq_some_iff.1 h
        rw [spread_len h2, relax_len h1]
      · cases h
def depthsOf (s : List Ty) : Option (List Int × Bool) :=
  (spread s.length (plAt s s.length) (s.length + 1) 0 ⟨depAt s s.length, misAt s s.length, doneAt s s.length⟩).map fun d => (d.de, d.dn.length == s.length)
def int' : Ty := .mk 1 0 []
def box' (t : Ty) : Ty := .mk 3 0 [t]
theorem dof_0 : depthsOf [zero, zero] = some ([1, 1], true) := by decide +kernel
theorem dof_1 : depthsOf [int', zero] = some ([1, 1], true) := by decide +kernel
theorem dof_2 : depthsOf [int', zero, box' (var 0)] = some ([1, 1, 2], true) := by decide +kernel
theorem dof_3 : depthsOf [zero, var 0, var 0] = some ([1, 1, 1], true) := by decide +kernel
theorem dof_4 : (depthsOf [box' (var 0), zero, var 0]).map Prod.snd = some false := by decide +kernel
end Un
end Go.Proofs.Ytkhbgdhgjbnhpaa
