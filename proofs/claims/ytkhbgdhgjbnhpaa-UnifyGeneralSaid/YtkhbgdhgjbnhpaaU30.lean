/-
  How many entries a map from numbers has.
-/
import Derived.Test.YtkhbgdhgjbnhpaaU29
set_option linter.unusedVariables false
set_option linter.unusedSimpArgs false
set_option linter.unusedSectionVars false
namespace Go.Proofs.Ytkhbgdhgjbnhpaa
open Go.RowKit Go.Lib Go.Maps
open Un (kd nm ar size sizes)

def keyInt : Lit → Int
  | .int _ i => i
  | _ => 0
theorem ownsMap_keys {H : Type} {R : Value → Option (DataW H × List MemPlace)} {w : World} {b n : Nat} {D : DataW H} (h : w.ownsMap Try.prog 3 R b n D) :
    ∃ keys : List Int, keys.Nodup ∧ (∀ i, i ∈ keys ↔ ((Lit.int .i64 i).wf = true ∧ Maps.has D (.int .i64 i) = true)) ∧ keys.length = Maps.size D ∧ w.ownsMap Try.prog 3 R b keys.length D := by
  obtain ⟨es, clock, hb, F, hs, rfl⟩ := h
  obtain ⟨L, hL⟩ : ∃ L, L = es.toList.map (WideElems.rg Try.prog 3 R) := ⟨_, rfl⟩
  have hlen : L.length = es.size := by rw [hL]; simp
  have hint : ∀ p ∈ L, ∃ i, p.1 = .int .i64 i ∧ (Lit.int .i64 i).wf = true := by
    intro p hp
    rw [hL] at hp
    obtain ⟨v, hv⟩ := fit_keys F p hp
    obtain ⟨x, _, h2, h3⟩ := Maps.keyOf_int_inv Try.underlying3 hv
    exact ⟨x, h2, h3⟩
  have hap : L.Pairwise (fun p q => p.1 ≠ q.1) := by rw [hL]; exact fit_apart keyed_int F
  rw [← hL]
  have hk : (L.map fun p => keyInt p.1).length = es.size := by simp [hlen]
  refine ⟨L.map fun p => keyInt p.1, ?_, fun i => ?_, ?_, ⟨es, clock, hb, F, by rw [hk]; exact Nat.le_refl _, by rw [hL]⟩⟩
  · unfold List.Nodup
    rw [List.pairwise_map]
    have : L.Pairwise (fun p q => p ∈ L ∧ q ∈ L ∧ p.1 ≠ q.1) := List.Pairwise.imp_of_mem (fun ha hb h => ⟨ha, hb, h⟩) hap
    refine this.imp (fun {p q} hh e => ?_)
    obtain ⟨ha, hb, hne⟩ := hh
    obtain ⟨i, h1, _⟩ := hint p ha
    obtain ⟨j, h2, _⟩ := hint q hb
    rw [h1, h2] at hne e
    simp only [keyInt] at e
    exact hne (by rw [e])
  · rw [has_eq, List.any_eq_true]
    constructor
    · intro hi
      obtain ⟨p, hp, rfl⟩ := List.mem_map.1 hi
      obtain ⟨j, h1, h2⟩ := hint p hp
      rw [h1]
      refine ⟨h2, p, mem_sorted.2 hp, ?_⟩
      rw [h1]
      exact WideAt.sameKey_self trivial
    · rintro ⟨_, p, hp, hs⟩
      have hp := mem_sorted.1 hp
      obtain ⟨j, h1, h2⟩ := hint p hp
      refine List.mem_map.2 ⟨p, hp, ?_⟩
      rw [h1] at hs ⊢
      by_cases e : (Lit.int .i64 j) = .int .i64 i
      · simp only [Lit.int.injEq, true_and] at e
        exact e
      · rw [sameKey_ne e] at hs; cases hs
  · rw [Go.Maps.size_eq, length_sorted, hk, hlen]
theorem MapTy.bound {w : World} {N : Nat → Prop} {m n : Nat} {f : Int → Option Ty} (h : MapTy w N m n f) (K : List Int) (hK : ∀ i, (f i).isSome = true → i ∈ K) : MapTy w N m K.length f := by
  obtain ⟨D, hD, hf⟩ := h
  obtain ⟨keys, h1, h2, _, h3⟩ := ownsMap_keys hD
  refine ⟨D, h3.mono (h1.length_le_of_subset fun i hi => hK i ?_), hf⟩
  obtain ⟨a, b⟩ := (h2 i).1 hi
  have h4 := hf i a
  revert h4
  cases f i with
  | none => intro h4; unfold HoldsTy at h4; rw [h4] at b; cases b
  | some u => intro _; rfl
end Go.Proofs.Ytkhbgdhgjbnhpaa
