/-
  Facts about the definitions of what the lexer answers: an offset of an error, and the text before it.
-/
import Derived.Test.YtlhfkdeegabbhaaDoorSpec
namespace Go.Proofs.YtlhfkdeegabbhaaDoor.Lx

theorem gapLen_take : ∀ (b : Bool) (l : List UInt8) (m : Nat), gapLen b (l.take m) = min (gapLen b l) m := by
  intro b l
  induction l generalizing b with
  | nil => intro m; cases b <;> simp [gapLen]
  | cons c r ih =>
    intro m
    cases m with
    | zero => cases b <;> simp [gapLen]
    | succ m =>
      cases b
      · simp only [List.take_succ_cons, gapLen]
        by_cases h1 : blankB c = true
        · rw [if_pos h1, if_pos h1, ih]; omega
        · rw [if_neg h1, if_neg h1]
          by_cases h2 : (c == 35) = true
          · rw [if_pos h2, if_pos h2, ih]; omega
          · rw [if_neg h2, if_neg h2]; omega
      · simp only [List.take_succ_cons, gapLen]
        by_cases h2 : (c == 10) = true
        · rw [if_pos h2, if_pos h2, ih]; omega
        · rw [if_neg h2, if_neg h2, ih]; omega
theorem gapLen_le' : ∀ (b : Bool) (l : List UInt8), gapLen b l ≤ l.length := by
  intro b l
  have := gapLen_take b l l.length
  rw [List.take_length] at this
  omega
theorem runLen_take (p : UInt8 → Bool) : ∀ (l : List UInt8) (m : Nat), runLen p (l.take m) = min (runLen p l) m := by
  intro l
  induction l with
  | nil => intro m; simp [runLen]
  | cons c r ih =>
    intro m
    cases m with
    | zero => simp [runLen]
    | succ m =>
      simp only [List.take_succ_cons, runLen]
      by_cases h : p c = true
      · simp only [h, if_true]; rw [ih]; omega
      · simp [h]
theorem symFrom_le (n : Nat) (l : List UInt8) : symFrom n l ≤ n := by
  induction n with
  | zero => exact Nat.le_refl _
  | succ n ih => unfold symFrom; split <;> omega
theorem symLen_cases (l : List UInt8) : symLen l = if 2 ≤ l.length ∧ isSym (l.take 2) = true then 2 else if 1 ≤ l.length ∧ isSym (l.take 1) = true then 1 else 0 := by
  unfold symLen
  by_cases h2 : 2 ≤ l.length
  · rw [Nat.min_eq_left h2]
    by_cases hs : isSym (l.take 2) = true
    · simp [symFrom, hs, h2]
    · have h1 : 1 ≤ l.length := by omega
      simp [symFrom, hs, h1]
  · by_cases h1 : 1 ≤ l.length
    · have e : min 2 l.length = 1 := by omega
      rw [e]
      simp [symFrom, h2, h1]
    · have e : min 2 l.length = 0 := by omega
      rw [e]; simp [symFrom, h2, h1]
theorem symLen_take (l : List UInt8) (m : Nat) (h : symLen l ≠ 0) (hm : symLen l ≤ m) : symLen (l.take m) = symLen l := by
  rw [symLen_cases] at h hm
  rw [symLen_cases (l.take m), symLen_cases l]
  by_cases h2 : 2 ≤ l.length ∧ isSym (l.take 2) = true
  · rw [if_pos h2] at hm ⊢
    rw [if_pos]
    refine ⟨by rw [List.length_take]; omega, by rw [List.take_take, Nat.min_eq_left hm]; exact h2.2⟩
  · rw [if_neg h2] at hm h ⊢
    by_cases h1 : 1 ≤ l.length ∧ isSym (l.take 1) = true
    · rw [if_pos h1] at hm ⊢
      rw [if_neg, if_pos]
      · exact ⟨by rw [List.length_take]; omega, by rw [List.take_take, Nat.min_eq_left hm]; exact h1.2⟩
      · rintro ⟨a, b⟩
        rw [List.length_take] at a
        rw [List.take_take, Nat.min_eq_left (by omega)] at b
        exact h2 ⟨by omega, b⟩
    · rw [if_neg h1] at h; exact absurd rfl h
theorem letter_word' (c : UInt8) (h : letterB c = true) : wordB c = true := by simp [letterB] at h; simp [wordB, h]

/-- a token is there also if the text ends behind it -/
theorem tok_take (l : List UInt8) (m : Nat) (h : (tokAt l).1 ≠ 0) (hm : (tokAt l).2.1 ≤ m) : tokAt (l.take m) = tokAt l := by
  cases l with
  | nil => exact absurd rfl h
  | cons c r =>
    cases m with
    | zero =>
      exfalso
      unfold tokAt at h hm
      by_cases hl : letterB c = true
      · have := letter_word' c hl
        simp only [hl, if_true] at h hm
        by_cases hx : 24 < runLen wordB (c :: r)
        · rw [if_pos hx] at h; exact h rfl
        · rw [if_neg hx] at hm; simp [runLen, this] at hm
      · have hl' : letterB c = false := by simpa using hl
        by_cases hd : digitB c = true
        · simp only [hl', hd, Bool.false_eq_true, if_false, if_true] at h hm
          split at h
          · exact h rfl
          · rename_i hx; rw [if_neg hx] at hm; simp [runLen, hd] at hm
        · have hd' : digitB c = false := by simpa using hd
          simp only [hl', hd', Bool.false_eq_true, if_false] at h hm
          split at h
          · exact h rfl
          · rename_i hx; rw [if_neg hx] at hm; simp at hm; exact hx hm
    | succ m =>
      rw [List.take_succ_cons]
      unfold tokAt at h hm ⊢
      by_cases hl : letterB c = true
      · simp only [hl, if_true] at h hm ⊢
        have e := runLen_take wordB (c :: r) (m + 1)
        rw [List.take_succ_cons] at e
        by_cases hx : 24 < runLen wordB (c :: r)
        · rw [if_pos hx] at h; exact absurd rfl h
        · rw [if_neg hx] at hm ⊢
          simp only at hm
          rw [Nat.min_eq_left hm] at e
          rw [e, if_neg hx]
      · have hl' : letterB c = false := by simpa using hl
        by_cases hd : digitB c = true
        · simp only [hl', hd, Bool.false_eq_true, if_false, if_true] at h hm ⊢
          have e := runLen_take digitB (c :: r) (m + 1)
          rw [List.take_succ_cons] at e
          by_cases hx : 10 < runLen digitB (c :: r) ∨ 1000000000 < numVal 0 ((c :: r).take (runLen digitB (c :: r)))
          · rw [if_pos hx] at h; exact absurd rfl h
          · rw [if_neg hx] at hm ⊢
            simp only at hm
            rw [Nat.min_eq_left hm] at e
            have e2 : (c :: r.take m).take (runLen digitB (c :: r)) = (c :: r).take (runLen digitB (c :: r)) := by
              rw [← List.take_succ_cons, List.take_take, Nat.min_eq_left hm]
            rw [e, e2, if_neg hx]
        · have hd' : digitB c = false := by simpa using hd
          simp only [hl', hd', Bool.false_eq_true, if_false] at h hm ⊢
          by_cases hx : symLen (c :: r) = 0
          · rw [if_pos hx] at h; exact absurd rfl h
          · rw [if_neg hx] at hm ⊢
            have e := symLen_take (c :: r) (m + 1) hx hm
            rw [List.take_succ_cons] at e
            rw [e, if_neg hx]

theorem tok_err' (l : List UInt8) (h : (tokAt l).1 = 0) : (tokAt l).2.2 = 2 ∨ (tokAt l).2.2 = 3 := by
  unfold tokAt at *
  repeat' split at h
  all_goals first | (simp at h; done) | (simp_all; done) | skip
end Go.Proofs.YtlhfkdeegabbhaaDoor.Lx
