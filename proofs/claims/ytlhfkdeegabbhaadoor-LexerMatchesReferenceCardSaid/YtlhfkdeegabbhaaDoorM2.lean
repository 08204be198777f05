/-
  The text before the offset of an error has no error.
-/
import Derived.Test.YtlhfkdeegabbhaaDoorM1
namespace Go.Proofs.YtlhfkdeegabbhaaDoor.Lx

theorem posEnd_ge (l : List UInt8) (k : Nat) : k ≤ posEnd l k := by unfold posEnd; omega
theorem posEnd_le (l : List UInt8) (k : Nat) (h : k ≤ l.length) : posEnd l k ≤ l.length := by
  have := gapLen_le' false (l.drop k)
  rw [List.length_drop] at this
  unfold posEnd; omega
theorem yields_off (l : List UInt8) : ∀ (f k : Nat) (y : Yd), y ∈ yields l f k → k ≤ y.tk.off ∧ y.tk.off < l.length := by
  intro f
  induction f with
  | zero => intro k y h; simp [yields] at h
  | succ f ih =>
    intro k y h
    unfold yields at h
    split at h
    · rename_i hk
      split at h
      · simp at h; rw [h]; exact ⟨Nat.le_refl _, hk⟩
      · rcases List.mem_cons.1 h with rfl | h
        · exact ⟨Nat.le_refl _, hk⟩
        · obtain ⟨a, b⟩ := ih _ y h
          have := posEnd_ge l (k + (tokAt (l.drop k)).2.1)
          exact ⟨by omega, b⟩
    · simp at h
theorem tok_pos' (l : List UInt8) (h : (tokAt l).1 ≠ 0) : 0 < (tokAt l).2.1 := by
  rcases Nat.eq_zero_or_pos (tokAt l).2.1 with h0 | h0
  · exfalso
    have := tok_take l 0 h (by omega)
    rw [List.take_zero] at this
    rw [← this] at h; exact h rfl
  · exact h0
theorem yields_fuel (l : List UInt8) : ∀ (f f' k : Nat), l.length - k < f → l.length - k < f' → yields l f k = yields l f' k := by
  intro f
  induction f with
  | zero => intro f' k h; omega
  | succ f ih =>
    intro f' k h h'
    cases f' with
    | zero => omega
    | succ f' =>
      unfold yields
      by_cases hk : k < l.length
      · rw [if_pos hk, if_pos hk]
        by_cases ht : (tokAt (l.drop k)).1 = 0
        · rw [if_pos ht, if_pos ht]
        · rw [if_neg ht, if_neg ht]
          have h1 := tok_pos' _ ht
          have h2 := posEnd_ge l (k + (tokAt (l.drop k)).2.1)
          rw [ih f' _ (by omega) (by omega)]
      · rw [if_neg hk, if_neg hk]
/-- the pairs before one are those of the text before it -/
theorem yields_take (l : List UInt8) : ∀ (q : List Yd) (f k : Nat) (y : Yd) (r : List Yd), yields l f k = q ++ y :: r → (∀ z ∈ q, z.err = 0) → yields (l.take y.tk.off) f k = q := by
  intro q
  induction q with
  | nil =>
    intro f k y r h _
    cases f with
    | zero => simp [yields] at h
    | succ f =>
      have hm : y ∈ yields l (f + 1) k := by rw [h]; simp
      have ho := yields_off l _ _ _ hm
      have hy : y.tk.off = k := by
        unfold yields at h
        split at h
        · split at h
          · simp at h; rw [← h.1]
          · simp at h; rw [← h.1]
        · simp at h
      unfold yields
      rw [if_neg (by rw [List.length_take]; omega)]
  | cons z q ih =>
    intro f k y r h hq
    cases f with
    | zero => simp [yields] at h
    | succ f =>
      have hm : y ∈ yields l (f + 1) k := by rw [h]; simp
      have ho := yields_off l _ _ _ hm
      unfold yields at h
      by_cases hk : k < l.length
      · rw [if_pos hk] at h
        by_cases ht : (tokAt (l.drop k)).1 = 0
        · rw [if_pos ht] at h; simp at h
        · rw [if_neg ht, List.cons_append] at h
          injection h with h1 h2
          have hm2 : y ∈ yields l f (posEnd l (k + (tokAt (l.drop k)).2.1)) := by rw [h2]; simp
          have ho2 := yields_off l _ _ _ hm2
          have hg := posEnd_ge l (k + (tokAt (l.drop k)).2.1)
          have hpos := tok_pos' _ ht
          have ed : (l.take y.tk.off).drop k = (l.drop k).take (y.tk.off - k) := List.drop_take ..
          have et : tokAt ((l.take y.tk.off).drop k) = tokAt (l.drop k) := by rw [ed]; exact tok_take _ _ ht (by omega)
          have ep : posEnd (l.take y.tk.off) (k + (tokAt (l.drop k)).2.1) = posEnd l (k + (tokAt (l.drop k)).2.1) := by
            have h3 := ho2.1
            unfold posEnd at h3 ⊢
            rw [List.drop_take, gapLen_take]; omega
          have ex : ((l.take y.tk.off).drop k).take (tokAt (l.drop k)).2.1 = (l.drop k).take (tokAt (l.drop k)).2.1 := by rw [ed, List.take_take, Nat.min_eq_left (by omega)]
          unfold yields
          rw [if_pos (by rw [List.length_take]; omega), et, if_neg ht, ep, ex, h1, ih f _ y r h2 (fun z hz => hq z (by simp [hz]))]
      · rw [if_neg hk] at h; simp at h
theorem yields_err (l : List UInt8) : ∀ (f k : Nat) (y : Yd), y ∈ yields l f k → y.err = 0 ∨ y.err = 2 ∨ y.err = 3 := by
  intro f
  induction f with
  | zero => intro k y h; simp [yields] at h
  | succ f ih =>
    intro k y h
    unfold yields at h
    split at h
    · split at h
      · rename_i ht
        simp at h; rw [h]
        exact .inr (tok_err' _ ht)
      · rcases List.mem_cons.1 h with rfl | h
        · exact .inl rfl
        · exact ih _ y h
    · simp at h

def okAll (pre : List Yd) : Prop := pre.length ≤ 6000 ∧ ∀ y ∈ pre, y.err = 0
theorem collect_ok (q : List Yd) : ∀ (n : Nat) (r : List Yd) (acc : List Tk), n + q.length ≤ 6000 → (∀ y ∈ q, y.err = 0) → collect n (q ++ r) acc = collect (n + q.length) r (acc ++ q.map (·.tk)) := by
  induction q with
  | nil => intro n r acc _ _; simp
  | cons y q ih =>
    intro n r acc hn hq
    have h0 : y.err = 0 := hq y (by simp)
    simp only [List.length_cons] at hn
    rw [List.cons_append, collect, if_neg (by omega), if_neg (by omega), ih (n + 1) r _ (by omega) (fun z hz => hq z (by simp [hz]))]
    simp only [List.length_cons, List.map_cons, List.append_assoc, List.cons_append, List.nil_append]
    rw [show n + 1 + q.length = n + (q.length + 1) from by omega]
theorem collect_done (ys : List Yd) (h : okAll ys) : collect 0 ys [] = (ys.map (·.tk), 0, 0) := by
  have := collect_ok ys 0 [] [] (by have := h.1; omega) h.2
  rw [List.append_nil] at this
  rw [this]; simp [collect]
def Stop (q : List Yd) (y : Yd) (er : Nat) : Prop := okAll q ∧ ((y.err ≠ 0 ∧ er = y.err) ∨ (y.err = 0 ∧ q.length = 6000 ∧ er = 2))
theorem collect_stop (q : List Yd) (y : Yd) (r : List Yd) (er : Nat) (h : Stop q y er) : collect 0 (q ++ y :: r) [] = ([], er, y.tk.off) := by
  rw [collect_ok q 0 _ [] (by have := h.1.1; omega) h.1.2, collect]
  rcases h.2 with ⟨h1, rfl⟩ | ⟨h1, h2, rfl⟩
  · rw [if_pos h1]
  · rw [if_neg (by omega), if_pos (by omega)]
theorem okAll_or (ys : List Yd) : okAll ys ∨ ∃ q y r er, ys = q ++ y :: r ∧ Stop q y er := by
  suffices h : ∀ (r q : List Yd), okAll q → okAll (q ++ r) ∨ ∃ q' y r' er, q ++ r = q' ++ y :: r' ∧ Stop q' y er by
    simpa using h ys [] ⟨by simp, by simp⟩
  intro r
  induction r with
  | nil => intro q h; left; simpa using h
  | cons y r ih =>
    intro q hq
    by_cases he : y.err = 0
    · by_cases hl : q.length = 6000
      · right; exact ⟨q, y, r, 2, rfl, hq, .inr ⟨he, hl, rfl⟩⟩
      · have := ih (q ++ [y]) ⟨by have := hq.1; simp; omega, fun z hz => by
          rcases List.mem_append.1 hz with hz | hz
          · exact hq.2 z hz
          · simp at hz; rw [hz]; exact he⟩
        simpa using this
    · right; exact ⟨q, y, r, y.err, rfl, hq, .inl ⟨he, rfl⟩⟩

/-- P1.6, of the definitions -/
theorem lex_error (l : List UInt8) (hl : l.length ≤ 20000) (h : (lexL l).2.1 ≠ 0) :
    (lexL l).1 = [] ∧ (lexL l).2.2 < l.length ∧ ((lexL l).2.1 = 3 ∨ (lexL l).2.1 = 2) ∧ (lexL (l.take (lexL l).2.2)).2.1 = 0 := by
  have e : lexL l = collect 0 (allYields l) [] := by unfold lexL; rw [if_neg (by omega)]
  rcases okAll_or (allYields l) with hok | ⟨q, y, r, er, hy, hs⟩
  · rw [e, collect_done _ hok] at h; exact absurd rfl h
  · have hm : y ∈ yields l (l.length + 1) (posEnd l 0) := by
      have : y ∈ allYields l := by rw [hy]; simp
      exact this
    have ho := yields_off l _ _ _ hm
    have e2 : lexL l = ([], er, y.tk.off) := by rw [e, hy, collect_stop _ _ _ _ hs]
    rw [e2]
    refine ⟨rfl, ho.2, ?_, ?_⟩
    · rcases hs.2 with ⟨h1, rfl⟩ | ⟨_, _, rfl⟩
      · rcases yields_err l _ _ _ hm with h2 | h2 | h2
        · exact absurd h2 h1
        · right; exact h2
        · left; exact h2
      · right; rfl
    · show (lexL (l.take y.tk.off)).2.1 = 0
      have hq := yields_take l q (l.length + 1) (posEnd l 0) y r hy hs.1.2
      have hp : posEnd (l.take y.tk.off) 0 = posEnd l 0 := by
        have h3 := ho.1
        unfold posEnd at h3 ⊢
        simp only [List.drop_zero] at h3 ⊢
        rw [gapLen_take]; omega
      have hlt : (l.take y.tk.off).length = y.tk.off := by rw [List.length_take]; omega
      have e3 : allYields (l.take y.tk.off) = q := by
        unfold allYields
        rw [hp, yields_fuel _ _ (l.length + 1) _ (by omega) (by omega)]
        exact hq
      have e4 : lexL (l.take y.tk.off) = collect 0 (allYields (l.take y.tk.off)) [] := by unfold lexL; rw [if_neg (by omega)]
      rw [e4, e3, collect_done _ hs.1]
theorem lex_ok (l : List UInt8) (h : (lexL l).2.1 = 0) : l.length ≤ 20000 ∧ (lexL l).2.2 = 0 ∧ okAll (allYields l) ∧ (lexL l).1 = (allYields l).map (·.tk) := by
  by_cases hl : 20000 < l.length
  · have e : lexL l = ([], 2, 20000) := by unfold lexL; rw [if_pos hl]
    rw [e] at h; simp at h
  · have e : lexL l = collect 0 (allYields l) [] := by unfold lexL; rw [if_neg hl]
    rcases okAll_or (allYields l) with hok | ⟨q, y, r, er, hy, hs⟩
    · rw [e, collect_done _ hok]; exact ⟨by omega, rfl, hok, rfl⟩
    · rw [e, hy, collect_stop _ _ _ _ hs] at h
      rcases hs.2 with ⟨h1, rfl⟩ | ⟨_, _, rfl⟩
      · exact absurd h h1
      · exact absurd h (by simp)
theorem lex_long (l : List UInt8) (h : 20000 < l.length) : lexL l = ([], 2, 20000) := by unfold lexL; rw [if_pos h]
end Go.Proofs.YtlhfkdeegabbhaaDoor.Lx
