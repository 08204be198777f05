/-
  A text without an error as a chain of tokens with gaps between them.
-/
import Derived.Test.YtlhfkdeegabbhaaDoorM2
namespace Go.Proofs.YtlhfkdeegabbhaaDoor.Lx

/-- tokens that stand one behind the other, with gaps between them, from an offset on -/
def Chain (l : List UInt8) : Nat → List Tk → Prop
  | k, [] => l.length ≤ k
  | k, t :: r => k < l.length ∧ t.off = k ∧ t.kind ≠ 0 ∧ tokAt (l.drop k) = (t.kind, t.text.length, t.num) ∧ t.text = (l.drop k).take t.text.length ∧
      0 < t.text.length ∧ k + t.text.length ≤ l.length ∧ Chain l (posEnd l (k + t.text.length)) r

theorem tok_len (l : List UInt8) (h : (tokAt l).1 ≠ 0) : (tokAt l).2.1 ≤ l.length := by
  rcases Nat.lt_or_ge l.length (tokAt l).2.1 with h0 | h0
  · exfalso
    -- a list is what its beginning of its own length is
    have h1 : tokAt l = tokAt l := rfl
    cases l with
    | nil => exact h rfl
    | cons c r =>
      unfold tokAt at h h0
      have w1 : runLen wordB (c :: r) ≤ (c :: r).length := by
        have := runLen_take wordB (c :: r) (c :: r).length; rw [List.take_length] at this; omega
      have w2 : runLen digitB (c :: r) ≤ (c :: r).length := by
        have := runLen_take digitB (c :: r) (c :: r).length; rw [List.take_length] at this; omega
      have w3 : symLen (c :: r) ≤ (c :: r).length := by
        have := symFrom_le (min 2 (c :: r).length) (c :: r); unfold symLen; omega
      by_cases hl : letterB c = true
      · simp only [hl, if_true] at h h0
        by_cases hx : 24 < runLen wordB (c :: r)
        · rw [if_pos hx] at h; exact h rfl
        · rw [if_neg hx] at h0; simp only at h0; omega
      · have hl' : letterB c = false := by simpa using hl
        by_cases hd : digitB c = true
        · simp only [hl', hd, Bool.false_eq_true, if_false, if_true] at h h0
          by_cases hx : 10 < runLen digitB (c :: r) ∨ 1000000000 < numVal 0 ((c :: r).take (runLen digitB (c :: r)))
          · rw [if_pos hx] at h; exact h rfl
          · rw [if_neg hx] at h0; simp only at h0; omega
        · have hd' : digitB c = false := by simpa using hd
          simp only [hl', hd', Bool.false_eq_true, if_false] at h h0
          by_cases hx : symLen (c :: r) = 0
          · rw [if_pos hx] at h; exact h rfl
          · rw [if_neg hx] at h0; simp only at h0; omega
  · exact h0

theorem chain_of (l : List UInt8) : ∀ (f k : Nat), l.length - k < f → (∀ y ∈ yields l f k, y.err = 0) → Chain l k ((yields l f k).map (·.tk)) := by
  intro f
  induction f with
  | zero => intro k h; omega
  | succ f ih =>
    intro k hf h
    unfold yields at h ⊢
    by_cases hk : k < l.length
    · rw [if_pos hk] at h ⊢
      by_cases ht : (tokAt (l.drop k)).1 = 0
      · rw [if_pos ht] at h
        have := h _ (List.mem_singleton.2 rfl)
        rcases tok_err' _ ht with h2 | h2 <;> rw [h2] at this <;> simp at this
      · rw [if_neg ht] at h ⊢
        have hp := tok_pos' _ ht
        have hl := tok_len _ ht
        have hlen : ((l.drop k).take (tokAt (l.drop k)).2.1).length = (tokAt (l.drop k)).2.1 := by rw [List.length_take]; omega
        rw [List.length_drop] at hl
        have hg := posEnd_ge l (k + (tokAt (l.drop k)).2.1)
        refine ⟨hk, rfl, ht, ?_, ?_, ?_, ?_, ?_⟩
        · simp only [hlen]
        · simp only [hlen]
        · simp only [hlen]; exact hp
        · simp only [hlen]; omega
        · simp only [hlen]
          exact ih _ (by omega) (fun y hy => h y (by simp [hy]))
    · rw [if_neg hk]
      show l.length ≤ k
      omega
/-- a text without an error -/
theorem lex_chain (l : List UInt8) (h : (lexL l).2.1 = 0) : l.length ≤ 20000 ∧ (lexL l).2.2 = 0 ∧ (lexL l).1.length ≤ 6000 ∧ Chain l (posEnd l 0) (lexL l).1 := by
  obtain ⟨h1, h2, h3, h4⟩ := lex_ok l h
  rw [h4]
  refine ⟨h1, h2, by simpa using h3.1, ?_⟩
  exact chain_of l _ _ (by omega) h3.2
/-- what is said of each token -/
theorem chain_at (l : List UInt8) : ∀ (ts : List Tk) (k i : Nat) (t : Tk), Chain l k ts → ts[i]? = some t →
    t.kind ≠ 0 ∧ tokAt (l.drop t.off) = (t.kind, t.text.length, t.num) ∧ t.text = (l.drop t.off).take t.text.length ∧ 0 < t.text.length ∧ t.off + t.text.length ≤ l.length := by
  intro ts
  induction ts with
  | nil => intro k i t _ h; simp at h
  | cons a r ih =>
    intro k i t h hi
    obtain ⟨h1, h2, h3, h4, h5, h6, h7, h8⟩ := h
    cases i with
    | zero =>
      simp at hi; subst hi
      subst h2
      exact ⟨h3, h4, h5, h6, h7⟩
    | succ i => exact ih _ i t h8 (by simpa using hi)
end Go.Proofs.YtlhfkdeegabbhaaDoor.Lx
