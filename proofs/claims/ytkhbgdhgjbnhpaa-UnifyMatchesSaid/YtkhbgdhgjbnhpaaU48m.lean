/-
  The walk of UnifyMatches.
-/
import Derived.Test.YtkhbgdhgjbnhpaaU43
import Derived.Deep.RegionHeld3
import Derived.Test.YtkhbgdhgjbnhpaaU47
import Derived.Test.YtkhbgdhgjbnhpaaU11
import Derived.Test.YtkhbgdhgjbnhpaaU32
set_option linter.unusedVariables false
set_option linter.unusedSimpArgs false
set_option linter.unusedSectionVars false
namespace Go.Proofs.Ytkhbgdhgjbnhpaa
open Go.RowKit Go.Lib
open Un (kd nm ar size sizes same sames small subst bare hasP)

mutual
theorem Un.pars_len : ∀ t : Ty, (Un.pars t).length ≤ size t
  | .mk k i al => by
    rw [Un.pars, Un.size]
    have h1 := Un.parss_len al
    split
    · simp
    · omega
theorem Un.parss_len : ∀ l : List Ty, (Un.parss l).length ≤ sizes l
  | [] => by rw [Un.parss, Un.sizes]; simp
  | a :: r => by
    rw [Un.parss, Un.sizes, List.length_append]
    have h1 := Un.pars_len a
    have h2 := Un.parss_len r
    omega
end
theorem Un.matched_len {n : Nat} {a b : Ty} {m : List Ty} (h : Un.matched n a b = some m) : m.length = n := by
  unfold Un.matched at h
  split at h
  · cases h; simp
  · cases h
theorem Un.matched_size {n : Nat} {a b : Ty} {m : List Ty} (h : Un.matched n a b = some m) : ∀ u ∈ m, size u ≤ size b + 1 := by
  unfold Un.matched at h
  split at h
  · cases h
    intro u hu
    obtain ⟨i, _, rfl⟩ := List.mem_map.1 hu
    cases e : (Un.mt n a b (fun _ => none)).1 (i : Int) with
    | none => simp only [Option.getD_none]; have : size Un.zero = 1 := rfl; omega
    | some u => simp only [Option.getD_some]; have := mt_found n (size b) (size a) a (Nat.le_refl _) b (Nat.le_refl _) _ (fun i u h => by cases h) i u e; omega
  · cases h
theorem Un.matched_subst {n : Nat} {a b : Ty} {m : List Ty} (h : Un.matched n a b = some m) : subst m a = b := by
  unfold Un.matched at h
  split at h
  · rename_i h2
    cases h
    refine Un.mt_subst n _ a b _ h2 (fun i u e => ?_)
    have h3 := mt_keys n (size a) a (Nat.le_refl _) b _ (fun i hi => by cases hi) h2 i (by rw [e]; rfl)
    refine ⟨h3.1, h3.2, ?_⟩
    rw [List.getElem?_map, List.getElem?_range (by omega)]
    simp only [Option.map_some, Option.some.injEq]
    rw [show ((i.toNat : Nat) : Int) = i by omega, e]
    rfl
  · cases h
theorem Un.matched_made {l : List Ty} {a : Ty} (hb : bare l.length a = true) : ∃ m, Un.matched l.length a (subst l a) = some m ∧ ∀ i, i < l.length → m[i]? = some (if hasP (i : Int) a = true then (l[i]?).getD Un.zero else Un.zero) := by
  obtain ⟨h1, h2⟩ := Un.mt_made l a (fun _ => none) hb (fun i u e => by cases e)
  refine ⟨_, by unfold Un.matched; rw [if_pos h1], fun i hi => ?_⟩
  rw [List.getElem?_map, List.getElem?_range hi]
  simp only [Option.map_some, Option.some.injEq]
  rw [h2]
  cases hasP (i : Int) a <;> simp
end Go.Proofs.Ytkhbgdhgjbnhpaa
