/-
  Joining classes, plainly.
-/
import Derived.Test.YtkhbgdhgjbnhpaaU20
set_option linter.unusedVariables false
set_option linter.unusedSimpArgs false
set_option linter.unusedSectionVars false
namespace Go.Proofs.Ytkhbgdhgjbnhpaa
open Go.RowKit Go.Lib
open Un (kd nm ar size sizes tm? setNext headOk speaker)

namespace Un
/-- classes are joined; nothing: refused -/
def joinG (fs : Nat) : Nat → Int → List Tm → List (Int × Int) → Option (Option (List Tm))
  | 0, _, _, _ => none
  | f + 1, n, ts, ps => match ps.getLast? with
    | none => some (some ts)
    | some (x, y) => match speaker fs ts x with
      | none => none
      | some (t1, a) => match speaker fs t1 y with
        | none => none
        | some (t2, b) =>
          if a = b then joinG fs f n t2 ps.dropLast
          else if a < n then joinG fs f n (setNext t2 a.toNat b) ps.dropLast
          else if b < n then joinG fs f n (setNext t2 b.toNat a) ps.dropLast
          else match tm? t2 a, tm? t2 b with
            | some p, some q => if headOk p q then joinG fs f n (setNext t2 a.toNat b) (ps.dropLast ++ p.args.zip q.args) else some none
            | _, _ => none
end Un
theorem joinG_nil {fs f : Nat} {n : Int} {ts : List Tm} : Un.joinG fs (f + 1) n ts [] = some (some ts) := by rw [Un.joinG]; rfl
theorem joinG_step {fs f : Nat} {n : Int} {ts : List Tm} {qs : List (Int × Int)} {x y : Int} {r : Option (List Tm)} (h : Un.joinG fs (f + 1) n ts (qs ++ [(x, y)]) = some r) :
    ∃ t1 a t2 b, speaker fs ts x = some (t1, a) ∧ speaker fs t1 y = some (t2, b) ∧ ((a = b ∧ Un.joinG fs f n t2 qs = some r) ∨ (a ≠ b ∧ a < n ∧ Un.joinG fs f n (setNext t2 a.toNat b) qs = some r) ∨ (a ≠ b ∧ ¬ a < n ∧ b < n ∧ Un.joinG fs f n (setNext t2 b.toNat a) qs = some r) ∨
      (a ≠ b ∧ ¬ a < n ∧ ¬ b < n ∧ ∃ p q, tm? t2 a = some p ∧ tm? t2 b = some q ∧ ((headOk p q = true ∧ Un.joinG fs f n (setNext t2 a.toNat b) (qs ++ p.args.zip q.args) = some r) ∨ (headOk p q = false ∧ r = none)))) := by
  rw [Un.joinG] at h
  simp only [List.getLast?_concat, List.dropLast_concat] at h
  cases h1 : speaker fs ts x with
  | none => simp [h1] at h
  | some z1 =>
    obtain ⟨t1, a⟩ := z1
    rw [h1] at h
    simp only at h
    cases h2 : speaker fs t1 y with
    | none => simp [h2] at h
    | some z2 =>
      obtain ⟨t2, b⟩ := z2
      rw [h2] at h
      simp only at h
      refine ⟨t1, a, t2, b, rfl, h2, ?_⟩
      split at h
      · rename_i e; exact .inl ⟨e, h⟩
      · rename_i e
        split at h
        · rename_i e2; exact .inr (.inl ⟨e, e2, h⟩)
        · rename_i e2
          split at h
          · rename_i e3; exact .inr (.inr (.inl ⟨e, e2, e3, h⟩))
          · rename_i e3
            cases h3 : tm? t2 a with
            | none => simp [h3] at h
            | some p =>
              cases h4 : tm? t2 b with
              | none => simp [h3, h4] at h
              | some q =>
                rw [h3, h4] at h
                simp only at h
                refine .inr (.inr (.inr ⟨e, e2, e3, p, q, rfl, rfl, ?_⟩))
                cases h5 : headOk p q with
                | true => rw [if_pos h5] at h; exact .inl ⟨rfl, h⟩
                | false =>
                  rw [if_neg (by simp [h5])] at h
                  simp only [Option.some.injEq] at h
                  exact .inr ⟨rfl, h.symm⟩
theorem setNext_argsA {A : Nat} {ts : List Tm} (h : ∀ a ∈ ts, a.args.length ≤ A) (i : Nat) (x : Int) : ∀ a ∈ setNext ts i x, a.args.length ≤ A := by
  intro a ha
  unfold setNext at ha
  cases h1 : ts[i]? with
  | none => rw [h1] at ha; exact h a ha
  | some c =>
    rw [h1] at ha
    rcases List.mem_or_eq_of_mem_set ha with h2 | rfl
    · exact h a h2
    · exact h c (List.mem_of_getElem? h1)
theorem speaker_argsA {A : Nat} : ∀ {f : Nat} {ts ts' : List Tm} {i r : Int}, speaker f ts i = some (ts', r) → (∀ a ∈ ts, a.args.length ≤ A) → ∀ a ∈ ts', a.args.length ≤ A
  | 0, _, _, _, _, h, _ => by simp [speaker] at h
  | f + 1, ts, ts', i, r, h, hA => by
    rw [speaker] at h
    cases h1 : tm? ts i with
    | none => simp [h1] at h
    | some a =>
      rw [h1] at h
      simp only at h
      split at h
      · simp only [Option.some.injEq, Prod.mk.injEq] at h
        obtain ⟨rfl, rfl⟩ := h
        exact hA
      · cases h2 : tm? ts a.next with
        | none => simp [h2] at h
        | some c =>
          rw [h2] at h
          exact speaker_argsA h (setNext_argsA hA _ _)
theorem SolFr.pcells {b : Nat} {tv : Value} {w w' : World} (h : SolFr b tv tv w w') {g : Nat} (hg : g < w.heap.size) (hb : g ≠ b) (ho : tv.ownBlock ≠ some g) (o : Nat) : w'.cell? ⟨g, o, none⟩ = w.cell? ⟨g, o, none⟩ :=
  (h.fr (X := b :: tv.ownBlock.toList) (by simp) (fun k hk => by simp [hk])).cell hg (by simp [hb]; exact ho) o
end Go.Proofs.Ytkhbgdhgjbnhpaa
