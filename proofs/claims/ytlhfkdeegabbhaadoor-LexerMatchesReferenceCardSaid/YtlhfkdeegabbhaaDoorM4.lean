/-
  No token can be extended by the byte that follows it: of the definitions.
-/
import Derived.Test.YtlhfkdeegabbhaaDoorM3
namespace Go.Proofs.YtlhfkdeegabbhaaDoor.Lx

theorem run_next (p : UInt8 → Bool) : ∀ (l : List UInt8) (c : UInt8), l[runLen p l]? = some c → p c = false := by
  intro l
  induction l with
  | nil => intro c h; simp at h
  | cons a r ih =>
    intro c h
    unfold runLen at h
    by_cases ha : p a = true
    · rw [if_pos ha] at h
      exact ih c (by simpa using h)
    · rw [if_neg ha] at h
      simp at h
      subst h
      simpa using ha
theorem tok_kind (l : List UInt8) (k m n : Nat) (h : tokAt l = (k, m, n)) (hk : k ≠ 0) : (k = 1 ∧ m = runLen wordB l) ∨ (k = 2 ∧ m = runLen digitB l) ∨ (k = 3 ∧ m = symLen l ∧ m ≠ 0) := by
  cases l with
  | nil => simp [tokAt] at h; omega
  | cons c r =>
    unfold tokAt at h
    by_cases hl : letterB c = true
    · simp only [hl, if_true] at h
      split at h
      · simp at h; omega
      · simp at h; left; exact ⟨h.1.symm, h.2.1.symm⟩
    · have hl' : letterB c = false := by simpa using hl
      by_cases hd : digitB c = true
      · simp only [hl', hd, Bool.false_eq_true, if_false, if_true] at h
        split at h
        · simp at h; omega
        · simp at h; right; left; exact ⟨h.1.symm, h.2.1.symm⟩
      · have hd' : digitB c = false := by simpa using hd
        simp only [hl', hd', Bool.false_eq_true, if_false] at h
        split at h
        · simp at h; omega
        · rename_i hx
          simp at h; right; right; exact ⟨h.1.symm, h.2.1.symm, by rw [← h.2.1]; exact hx⟩
theorem syms_len (x : List UInt8) (h : isSym x = true) : x.length ≤ 2 := by
  have : ∀ y ∈ syms, y.length ≤ 2 := by decide
  unfold isSym at h
  exact this x (by simpa using h)
theorem sym_next (l : List UInt8) (h0 : symLen l ≠ 0) (h : symLen l < l.length) : isSym (l.take (symLen l + 1)) = false := by
  rw [symLen_cases] at *
  by_cases h2 : 2 ≤ l.length ∧ isSym (l.take 2) = true
  · rw [if_pos h2] at *
    cases hs : isSym (l.take 3) with
    | false => rfl
    | true =>
      have := syms_len _ hs
      rw [List.length_take] at this
      omega
  · rw [if_neg h2] at *
    by_cases h1 : 1 ≤ l.length ∧ isSym (l.take 1) = true
    · rw [if_pos h1] at *
      cases hs : isSym (l.take 2) with
      | false => rfl
      | true => exact absurd ⟨by omega, hs⟩ h2
    · rw [if_neg h1] at h0; exact absurd rfl h0
theorem word_parts (c : UInt8) (h : wordB c = false) : letterB c = false ∧ digitB c = false ∧ c.toNat ≠ 95 := by
  simp only [wordB, Bool.or_eq_false_iff] at h
  refine ⟨h.1.1, h.1.2, ?_⟩
  intro h95
  have := h.2
  rw [h95] at this
  exact absurd this (by decide)
end Go.Proofs.YtlhfkdeegabbhaaDoor.Lx
