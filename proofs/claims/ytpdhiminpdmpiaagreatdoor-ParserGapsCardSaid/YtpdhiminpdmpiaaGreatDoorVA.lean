/-
  Plain definitions of what the lexer answers, on lists of bytes; nothing is proved of the program here.
-/
set_option linter.unusedVariables false
set_option linter.unusedSimpArgs false
set_option linter.unusedSectionVars false
namespace Go.Proofs.YtpdhiminpdmpiaaGreatDoor.Lx
/-- the class of a byte, by its number -/
def clsN (i : Nat) : Nat :=
  if i = 32 ∨ i = 9 ∨ i = 13 ∨ i = 10 then 1
  else if (97 ≤ i ∧ i ≤ 122) ∨ (65 ≤ i ∧ i ≤ 90) then 4
  else if 48 ≤ i ∧ i ≤ 57 then 8
  else if i = 35 then 2
  else if i = 95 then 16
  else 0
def blankB (c : UInt8) : Bool := clsN c.toNat == 1
def letterB (c : UInt8) : Bool := clsN c.toNat == 4
def digitB (c : UInt8) : Bool := clsN c.toNat == 8
def wordB (c : UInt8) : Bool := clsN c.toNat == 4 || clsN c.toNat == 8 || clsN c.toNat == 16
def runLen (p : UInt8 → Bool) : List UInt8 → Nat
  | [] => 0
  | c :: r => if p c then runLen p r + 1 else 0
/-- bytes of the gap at the beginning of a text; the flag: within a comment -/
def gapLen : Bool → List UInt8 → Nat
  | _, [] => 0
  | false, c :: r => if blankB c then gapLen false r + 1 else if c == 35 then gapLen true r + 1 else 0
  | true, c :: r => if c == 10 then gapLen false r + 1 else gapLen true r + 1
def numVal (acc : Nat) (l : List UInt8) : Nat := l.foldl (fun a c => 10 * a + (c.toNat - 48)) acc
theorem numVal_nil (acc : Nat) : numVal acc [] = acc := by simp only [numVal, List.foldl_nil]
theorem numVal_cons (acc : Nat) (c : UInt8) (r : List UInt8) : numVal acc (c :: r) = numVal (10 * acc + (c.toNat - 48)) r := by simp only [numVal, List.foldl_cons]
theorem numVal_ge (l : List UInt8) : ∀ (acc : Nat), acc ≤ numVal acc l := by
  induction l with
  | nil => intro acc; rw [numVal_nil]; exact Nat.le_refl _
  | cons c r ih =>
    intro acc
    rw [numVal_cons]
    exact Nat.le_trans (by omega) (ih _)
/-- the symbols, in the order of the text from which the map is filled -/
def syms : List (List UInt8) := [[60], [62], [40], [41], [123], [125], [91], [93], [44], [59], [58], [58, 58], [46], [61], [61, 61], [43], [45], [42], [38], [38, 33], [45, 62]]
def isSym (t : List UInt8) : Bool := syms.contains t
/-- bytes of the longest symbol of at most so many bytes at the beginning of a text -/
def symFrom : Nat → List UInt8 → Nat
  | 0, _ => 0
  | n + 1, l => if isSym (l.take (n + 1)) then n + 1 else symFrom n l
def symLen (l : List UInt8) : Nat := symFrom (min 2 l.length) l
/-- what stands at the beginning of a text that begins no gap: (kind, bytes, number), or (0, 0, error) -/
def tokAt (l : List UInt8) : Nat × Nat × Nat :=
  match l with
  | [] => (0, 0, 3)
  | c :: _ =>
    if letterB c then
      if 24 < runLen wordB l then (0, 0, 2) else (1, runLen wordB l, 0)
    else if digitB c then
      if 10 < runLen digitB l ∨ 1000000000 < numVal 0 (l.take (runLen digitB l)) then (0, 0, 2)
      else (2, runLen digitB l, numVal 0 (l.take (runLen digitB l)))
    else if symLen l = 0 then (0, 0, 3) else (3, symLen l, 0)
structure Tk where
  kind : Nat
  text : List UInt8
  num : Nat
  off : Nat
deriving DecidableEq, Repr
/-- a yielded pair: a token and an error -/
structure Yd where
  tk : Tk
  err : Nat
deriving DecidableEq, Repr
def posEnd (l : List UInt8) (k : Nat) : Nat := k + gapLen false (l.drop k)
/-- the pairs that the iterator yields from an offset on that stands behind a gap; the first number bounds the rounds -/
def yields (l : List UInt8) : Nat → Nat → List Yd
  | 0, _ => []
  | f + 1, k =>
    if k < l.length then
      if (tokAt (l.drop k)).1 = 0 then [⟨⟨0, [], 0, k⟩, (tokAt (l.drop k)).2.2⟩]
      else ⟨⟨(tokAt (l.drop k)).1, (l.drop k).take (tokAt (l.drop k)).2.1, (tokAt (l.drop k)).2.2, k⟩, 0⟩ :: yields l f (posEnd l (k + (tokAt (l.drop k)).2.1))
    else []
def allYields (l : List UInt8) : List Yd := yields l (l.length + 1) (posEnd l 0)
/-- what the caller makes of the pairs: tokens, error, offset -/
def collect : Nat → List Yd → List Tk → List Tk × Nat × Nat
  | _, [], acc => (acc, 0, 0)
  | n, y :: r, acc =>
    if y.err ≠ 0 then ([], y.err, y.tk.off)
    else if n = 6000 then ([], 2, y.tk.off)
    else collect (n + 1) r (acc ++ [y.tk])
def lexL (l : List UInt8) : List Tk × Nat × Nat :=
  if 20000 < l.length then ([], 2, 20000) else collect 0 (allYields l) []
end Go.Proofs.YtpdhiminpdmpiaaGreatDoor.Lx
/-
  Facts about the definitions of what the lexer answers: an offset of an error, and the text before it.
-/
namespace Go.Proofs.YtpdhiminpdmpiaaGreatDoor.Lx
theorem gapLen_take : ∀ (b : Bool) (l : List UInt8) (m : Nat), gapLen b (l.take m) = min (gapLen b l) m := by
  intro b l
  induction l generalizing b with
  | nil => intro m; cases b <;> simp [gapLen]
  | cons c r ih =>
    intro m
    cases m with
    | zero => cases b <;> simp [gapLen]
    | succ m =>
      cases b
      · simp only [List.take_succ_cons, gapLen]
        by_cases h1 : blankB c = true
        · rw [if_pos h1, if_pos h1, ih]; omega
        · rw [if_neg h1, if_neg h1]
          by_cases h2 : (c == 35) = true
          · rw [if_pos h2, if_pos h2, ih]; omega
          · rw [if_neg h2, if_neg h2]; omega
      · simp only [List.take_succ_cons, gapLen]
        by_cases h2 : (c == 10) = true
        · rw [if_pos h2, if_pos h2, ih]; omega
        · rw [if_neg h2, if_neg h2, ih]; omega
theorem gapLen_le' : ∀ (b : Bool) (l : List UInt8), gapLen b l ≤ l.length := by
  intro b l
  have := gapLen_take b l l.length
  rw [List.take_length] at this
  omega
theorem runLen_take (p : UInt8 → Bool) : ∀ (l : List UInt8) (m : Nat), runLen p (l.take m) = min (runLen p l) m := by
  intro l
  induction l with
  | nil => intro m; simp [runLen]
  | cons c r ih =>
    intro m
    cases m with
    | zero => simp [runLen]
    | succ m =>
      simp only [List.take_succ_cons, runLen]
      by_cases h : p c = true
      · simp only [h, if_true]; rw [ih]; omega
      · simp [h]
theorem symFrom_le (n : Nat) (l : List UInt8) : symFrom n l ≤ n := by
  induction n with
  | zero => exact Nat.le_refl _
  | succ n ih => unfold symFrom; split <;> omega
theorem symLen_cases (l : List UInt8) : symLen l = if 2 ≤ l.length ∧ isSym (l.take 2) = true then 2 else if 1 ≤ l.length ∧ isSym (l.take 1) = true then 1 else 0 := by
  unfold symLen
  by_cases h2 : 2 ≤ l.length
  · rw [Nat.min_eq_left h2]
    by_cases hs : isSym (l.take 2) = true
    · simp [symFrom, hs, h2]
    · have h1 : 1 ≤ l.length := by omega
      simp [symFrom, hs, h1]
  · by_cases h1 : 1 ≤ l.length
    · have e : min 2 l.length = 1 := by omega
      rw [e]
      simp [symFrom, h2, h1]
    · have e : min 2 l.length = 0 := by omega
      rw [e]; simp [symFrom, h2, h1]
theorem symLen_take (l : List UInt8) (m : Nat) (h : symLen l ≠ 0) (hm : symLen l ≤ m) : symLen (l.take m) = symLen l := by
  rw [symLen_cases] at h hm
  rw [symLen_cases (l.take m), symLen_cases l]
  by_cases h2 : 2 ≤ l.length ∧ isSym (l.take 2) = true
  · rw [if_pos h2] at hm ⊢
    rw [if_pos]
    refine ⟨by rw [List.length_take]; omega, by rw [List.take_take, Nat.min_eq_left hm]; exact h2.2⟩
  · rw [if_neg h2] at hm h ⊢
    by_cases h1 : 1 ≤ l.length ∧ isSym (l.take 1) = true
    · rw [if_pos h1] at hm ⊢
      rw [if_neg, if_pos]
      · exact ⟨by rw [List.length_take]; omega, by rw [List.take_take, Nat.min_eq_left hm]; exact h1.2⟩
      · rintro ⟨a, b⟩
        rw [List.length_take] at a
        rw [List.take_take, Nat.min_eq_left (by omega)] at b
        exact h2 ⟨by omega, b⟩
    · rw [if_neg h1] at h; exact absurd rfl h
theorem letter_word' (c : UInt8) (h : letterB c = true) : wordB c = true := by simp [letterB] at h; simp [wordB, h]
/-- a token is there also if the text ends behind it -/
theorem tok_take (l : List UInt8) (m : Nat) (h : (tokAt l).1 ≠ 0) (hm : (tokAt l).2.1 ≤ m) : tokAt (l.take m) = tokAt l := by
  cases l with
  | nil => exact absurd rfl h
  | cons c r =>
    cases m with
    | zero =>
      exfalso
      unfold tokAt at h hm
      by_cases hl : letterB c = true
      · have := letter_word' c hl
        simp only [hl, if_true] at h hm
        by_cases hx : 24 < runLen wordB (c :: r)
        · rw [if_pos hx] at h; exact h rfl
        · rw [if_neg hx] at hm; simp [runLen, this] at hm
      · have hl' : letterB c = false := by simpa using hl
        by_cases hd : digitB c = true
        · simp only [hl', hd, Bool.false_eq_true, if_false, if_true] at h hm
          split at h
          · exact h rfl
          · rename_i hx; rw [if_neg hx] at hm; simp [runLen, hd] at hm
        · have hd' : digitB c = false := by simpa using hd
          simp only [hl', hd', Bool.false_eq_true, if_false] at h hm
          split at h
          · exact h rfl
          · rename_i hx; rw [if_neg hx] at hm; simp at hm; exact hx hm
    | succ m =>
      rw [List.take_succ_cons]
      unfold tokAt at h hm ⊢
      by_cases hl : letterB c = true
      · simp only [hl, if_true] at h hm ⊢
        have e := runLen_take wordB (c :: r) (m + 1)
        rw [List.take_succ_cons] at e
        by_cases hx : 24 < runLen wordB (c :: r)
        · rw [if_pos hx] at h; exact absurd rfl h
        · rw [if_neg hx] at hm ⊢
          simp only at hm
          rw [Nat.min_eq_left hm] at e
          rw [e, if_neg hx]
      · have hl' : letterB c = false := by simpa using hl
        by_cases hd : digitB c = true
        · simp only [hl', hd, Bool.false_eq_true, if_false, if_true] at h hm ⊢
          have e := runLen_take digitB (c :: r) (m + 1)
          rw [List.take_succ_cons] at e
          by_cases hx : 10 < runLen digitB (c :: r) ∨ 1000000000 < numVal 0 ((c :: r).take (runLen digitB (c :: r)))
          · rw [if_pos hx] at h; exact absurd rfl h
          · rw [if_neg hx] at hm ⊢
            simp only at hm
            rw [Nat.min_eq_left hm] at e
            have e2 : (c :: r.take m).take (runLen digitB (c :: r)) = (c :: r).take (runLen digitB (c :: r)) := by
              rw [← List.take_succ_cons, List.take_take, Nat.min_eq_left hm]
            rw [e, e2, if_neg hx]
        · have hd' : digitB c = false := by simpa using hd
          simp only [hl', hd', Bool.false_eq_true, if_false] at h hm ⊢
          by_cases hx : symLen (c :: r) = 0
          · rw [if_pos hx] at h; exact absurd rfl h
          · rw [if_neg hx] at hm ⊢
            have e := symLen_take (c :: r) (m + 1) hx hm
            rw [List.take_succ_cons] at e
            rw [e, if_neg hx]
theorem tok_err' (l : List UInt8) (h : (tokAt l).1 = 0) : (tokAt l).2.2 = 2 ∨ (tokAt l).2.2 = 3 := by
  unfold tokAt at *
  repeat' split at h
  all_goals first | (simp at h; done) | (simp_all; done) | skip
end Go.Proofs.YtpdhiminpdmpiaaGreatDoor.Lx
/-
  The text before the offset of an error has no error.
-/
namespace Go.Proofs.YtpdhiminpdmpiaaGreatDoor.Lx
theorem posEnd_ge (l : List UInt8) (k : Nat) : k ≤ posEnd l k := by unfold posEnd; omega
theorem yields_off (l : List UInt8) : ∀ (f k : Nat) (y : Yd), y ∈ yields l f k → k ≤ y.tk.off ∧ y.tk.off < l.length := by
  intro f
  induction f with
  | zero => intro k y h; simp [yields] at h
  | succ f ih =>
    intro k y h
    unfold yields at h
    split at h
    · rename_i hk
      split at h
      · simp at h; rw [h]; exact ⟨Nat.le_refl _, hk⟩
      · rcases List.mem_cons.1 h with rfl | h
        · exact ⟨Nat.le_refl _, hk⟩
        · obtain ⟨a, b⟩ := ih _ y h
          have := posEnd_ge l (k + (tokAt (l.drop k)).2.1)
          exact ⟨by omega, b⟩
    · simp at h
theorem tok_pos' (l : List UInt8) (h : (tokAt l).1 ≠ 0) : 0 < (tokAt l).2.1 := by
  rcases Nat.eq_zero_or_pos (tokAt l).2.1 with h0 | h0
  · exfalso
    have := tok_take l 0 h (by omega)
    rw [List.take_zero] at this
    rw [← this] at h; exact h rfl
  · exact h0
theorem yields_fuel (l : List UInt8) : ∀ (f f' k : Nat), l.length - k < f → l.length - k < f' → yields l f k = yields l f' k := by
  intro f
  induction f with
  | zero => intro f' k h; omega
  | succ f ih =>
    intro f' k h h'
    cases f' with
    | zero => omega
    | succ f' =>
      unfold yields
      by_cases hk : k < l.length
      · rw [if_pos hk, if_pos hk]
        by_cases ht : (tokAt (l.drop k)).1 = 0
        · rw [if_pos ht, if_pos ht]
        · rw [if_neg ht, if_neg ht]
          have h1 := tok_pos' _ ht
          have h2 := posEnd_ge l (k + (tokAt (l.drop k)).2.1)
          rw [ih f' _ (by omega) (by omega)]
      · rw [if_neg hk, if_neg hk]
/-- the pairs before one are those of the text before it -/
theorem yields_take (l : List UInt8) : ∀ (q : List Yd) (f k : Nat) (y : Yd) (r : List Yd), yields l f k = q ++ y :: r → (∀ z ∈ q, z.err = 0) → yields (l.take y.tk.off) f k = q := by
  intro q
  induction q with
  | nil =>
    intro f k y r h _
    cases f with
    | zero => simp [yields] at h
    | succ f =>
      have hm : y ∈ yields l (f + 1) k := by rw [h]; simp
      have ho := yields_off l _ _ _ hm
      have hy : y.tk.off = k := by
        unfold yields at h
        split at h
        · split at h
          · simp at h; rw [← h.1]
          · simp at h; rw [← h.1]
        · simp at h
      unfold yields
      rw [if_neg (by rw [List.length_take]; omega)]
  | cons z q ih =>
    intro f k y r h hq
    cases f with
    | zero => simp [yields] at h
    | succ f =>
      have hm : y ∈ yields l (f + 1) k := by rw [h]; simp
      have ho := yields_off l _ _ _ hm
      unfold yields at h
      by_cases hk : k < l.length
      · rw [if_pos hk] at h
        by_cases ht : (tokAt (l.drop k)).1 = 0
        · rw [if_pos ht] at h; simp at h
        · rw [if_neg ht, List.cons_append] at h
          injection h with h1 h2
          have hm2 : y ∈ yields l f (posEnd l (k + (tokAt (l.drop k)).2.1)) := by rw [h2]; simp
          have ho2 := yields_off l _ _ _ hm2
          have hg := posEnd_ge l (k + (tokAt (l.drop k)).2.1)
          have hpos := tok_pos' _ ht
          have ed : (l.take y.tk.off).drop k = (l.drop k).take (y.tk.off - k) := List.drop_take ..
          have et : tokAt ((l.take y.tk.off).drop k) = tokAt (l.drop k) := by rw [ed]; exact tok_take _ _ ht (by omega)
          have ep : posEnd (l.take y.tk.off) (k + (tokAt (l.drop k)).2.1) = posEnd l (k + (tokAt (l.drop k)).2.1) := by
            have h3 := ho2.1
            unfold posEnd at h3 ⊢
            rw [List.drop_take, gapLen_take]; omega
          have ex : ((l.take y.tk.off).drop k).take (tokAt (l.drop k)).2.1 = (l.drop k).take (tokAt (l.drop k)).2.1 := by rw [ed, List.take_take, Nat.min_eq_left (by omega)]
          unfold yields
          rw [if_pos (by rw [List.length_take]; omega), et, if_neg ht, ep, ex, h1, ih f _ y r h2 (fun z hz => hq z (by simp [hz]))]
      · rw [if_neg hk] at h; simp at h
theorem yields_err (l : List UInt8) : ∀ (f k : Nat) (y : Yd), y ∈ yields l f k → y.err = 0 ∨ y.err = 2 ∨ y.err = 3 := by
  intro f
  induction f with
  | zero => intro k y h; simp [yields] at h
  | succ f ih =>
    intro k y h
    unfold yields at h
    split at h
    · split at h
      · rename_i ht
        simp at h; rw [h]
        exact .inr (tok_err' _ ht)
      · rcases List.mem_cons.1 h with rfl | h
        · exact .inl rfl
        · exact ih _ y h
    · simp at h
def okAll (pre : List Yd) : Prop := pre.length ≤ 6000 ∧ ∀ y ∈ pre, y.err = 0
theorem collect_ok (q : List Yd) : ∀ (n : Nat) (r : List Yd) (acc : List Tk), n + q.length ≤ 6000 → (∀ y ∈ q, y.err = 0) → collect n (q ++ r) acc = collect (n + q.length) r (acc ++ q.map (·.tk)) := by
  induction q with
  | nil => intro n r acc _ _; simp
  | cons y q ih =>
    intro n r acc hn hq
    have h0 : y.err = 0 := hq y (by simp)
    simp only [List.length_cons] at hn
    rw [List.cons_append, collect, if_neg (by omega), if_neg (by omega), ih (n + 1) r _ (by omega) (fun z hz => hq z (by simp [hz]))]
    simp only [List.length_cons, List.map_cons, List.append_assoc, List.cons_append, List.nil_append]
    rw [show n + 1 + q.length = n + (q.length + 1) from by omega]
theorem collect_done (ys : List Yd) (h : okAll ys) : collect 0 ys [] = (ys.map (·.tk), 0, 0) := by
  have := collect_ok ys 0 [] [] (by have := h.1; omega) h.2
  rw [List.append_nil] at this
  rw [this]; simp [collect]
def Stop (q : List Yd) (y : Yd) (er : Nat) : Prop := okAll q ∧ ((y.err ≠ 0 ∧ er = y.err) ∨ (y.err = 0 ∧ q.length = 6000 ∧ er = 2))
theorem collect_stop (q : List Yd) (y : Yd) (r : List Yd) (er : Nat) (h : Stop q y er) : collect 0 (q ++ y :: r) [] = ([], er, y.tk.off) := by
  rw [collect_ok q 0 _ [] (by have := h.1.1; omega) h.1.2, collect]
  rcases h.2 with ⟨h1, rfl⟩ | ⟨h1, h2, rfl⟩
  · rw [if_pos h1]
  · rw [if_neg (by omega), if_pos (by omega)]
theorem okAll_or (ys : List Yd) : okAll ys ∨ ∃ q y r er, ys = q ++ y :: r ∧ Stop q y er := by
  suffices h : ∀ (r q : List Yd), okAll q → okAll (q ++ r) ∨ ∃ q' y r' er, q ++ r = q' ++ y :: r' ∧ Stop q' y er by
    simpa using h ys [] ⟨by simp, by simp⟩
  intro r
  induction r with
  | nil => intro q h; left; simpa using h
  | cons y r ih =>
    intro q hq
    by_cases he : y.err = 0
    · by_cases hl : q.length = 6000
      · right; exact ⟨q, y, r, 2, rfl, hq, .inr ⟨he, hl, rfl⟩⟩
      · have := ih (q ++ [y]) ⟨by have := hq.1; simp; omega, fun z hz => by
          rcases List.mem_append.1 hz with hz | hz
          · exact hq.2 z hz
          · simp at hz; rw [hz]; exact he⟩
        simpa using this
    · right; exact ⟨q, y, r, y.err, rfl, hq, .inl ⟨he, rfl⟩⟩
/-- P1.6, of the definitions -/
theorem lex_error (l : List UInt8) (hl : l.length ≤ 20000) (h : (lexL l).2.1 ≠ 0) :
    (lexL l).1 = [] ∧ (lexL l).2.2 < l.length ∧ ((lexL l).2.1 = 3 ∨ (lexL l).2.1 = 2) ∧ (lexL (l.take (lexL l).2.2)).2.1 = 0 := by
  have e : lexL l = collect 0 (allYields l) [] := by unfold lexL; rw [if_neg (by omega)]
  rcases okAll_or (allYields l) with hok | ⟨q, y, r, er, hy, hs⟩
  · rw [e, collect_done _ hok] at h; exact absurd rfl h
  · have hm : y ∈ yields l (l.length + 1) (posEnd l 0) := by
      have : y ∈ allYields l := by rw [hy]; simp
      exact this
    have ho := yields_off l _ _ _ hm
    have e2 : lexL l = ([], er, y.tk.off) := by rw [e, hy, collect_stop _ _ _ _ hs]
    rw [e2]
    refine ⟨rfl, ho.2, ?_, ?_⟩
    · rcases hs.2 with ⟨h1, rfl⟩ | ⟨_, _, rfl⟩
      · rcases yields_err l _ _ _ hm with h2 | h2 | h2
        · exact absurd h2 h1
        · right; exact h2
        · left; exact h2
      · right; rfl
    · show (lexL (l.take y.tk.off)).2.1 = 0
      have hq := yields_take l q (l.length + 1) (posEnd l 0) y r hy hs.1.2
      have hp : posEnd (l.take y.tk.off) 0 = posEnd l 0 := by
        have h3 := ho.1
        unfold posEnd at h3 ⊢
        simp only [List.drop_zero] at h3 ⊢
        rw [gapLen_take]; omega
      have hlt : (l.take y.tk.off).length = y.tk.off := by rw [List.length_take]; omega
      have e3 : allYields (l.take y.tk.off) = q := by
        unfold allYields
        rw [hp, yields_fuel _ _ (l.length + 1) _ (by omega) (by omega)]
        exact hq
      have e4 : lexL (l.take y.tk.off) = collect 0 (allYields (l.take y.tk.off)) [] := by unfold lexL; rw [if_neg (by omega)]
      rw [e4, e3, collect_done _ hs.1]
theorem lex_ok (l : List UInt8) (h : (lexL l).2.1 = 0) : l.length ≤ 20000 ∧ (lexL l).2.2 = 0 ∧ okAll (allYields l) ∧ (lexL l).1 = (allYields l).map (·.tk) := by
  by_cases hl : 20000 < l.length
  · have e : lexL l = ([], 2, 20000) := by unfold lexL; rw [if_pos hl]
    rw [e] at h; simp at h
  · have e : lexL l = collect 0 (allYields l) [] := by unfold lexL; rw [if_neg hl]
    rcases okAll_or (allYields l) with hok | ⟨q, y, r, er, hy, hs⟩
    · rw [e, collect_done _ hok]; exact ⟨by omega, rfl, hok, rfl⟩
    · rw [e, hy, collect_stop _ _ _ _ hs] at h
      rcases hs.2 with ⟨h1, rfl⟩ | ⟨_, _, rfl⟩
      · exact absurd h h1
      · exact absurd h (by simp)
theorem lex_long (l : List UInt8) (h : 20000 < l.length) : lexL l = ([], 2, 20000) := by unfold lexL; rw [if_pos h]
end Go.Proofs.YtpdhiminpdmpiaaGreatDoor.Lx
/-
  A text without an error as a chain of tokens with gaps between them.
-/
namespace Go.Proofs.YtpdhiminpdmpiaaGreatDoor.Lx
/-- tokens that stand one behind the other, with gaps between them, from an offset on -/
def Chain (l : List UInt8) : Nat → List Tk → Prop
  | k, [] => l.length ≤ k
  | k, t :: r => k < l.length ∧ t.off = k ∧ t.kind ≠ 0 ∧ tokAt (l.drop k) = (t.kind, t.text.length, t.num) ∧ t.text = (l.drop k).take t.text.length ∧
      0 < t.text.length ∧ k + t.text.length ≤ l.length ∧ Chain l (posEnd l (k + t.text.length)) r
theorem tok_len (l : List UInt8) (h : (tokAt l).1 ≠ 0) : (tokAt l).2.1 ≤ l.length := by
  rcases Nat.lt_or_ge l.length (tokAt l).2.1 with h0 | h0
  · exfalso
    -- a list is what its beginning of its own length is
    have h1 : tokAt l = tokAt l := rfl
    cases l with
    | nil => exact h rfl
    | cons c r =>
      unfold tokAt at h h0
      have w1 : runLen wordB (c :: r) ≤ (c :: r).length := by
        have := runLen_take wordB (c :: r) (c :: r).length; rw [List.take_length] at this; omega
      have w2 : runLen digitB (c :: r) ≤ (c :: r).length := by
        have := runLen_take digitB (c :: r) (c :: r).length; rw [List.take_length] at this; omega
      have w3 : symLen (c :: r) ≤ (c :: r).length := by
        have := symFrom_le (min 2 (c :: r).length) (c :: r); unfold symLen; omega
      by_cases hl : letterB c = true
      · simp only [hl, if_true] at h h0
        by_cases hx : 24 < runLen wordB (c :: r)
        · rw [if_pos hx] at h; exact h rfl
        · rw [if_neg hx] at h0; simp only at h0; omega
      · have hl' : letterB c = false := by simpa using hl
        by_cases hd : digitB c = true
        · simp only [hl', hd, Bool.false_eq_true, if_false, if_true] at h h0
          by_cases hx : 10 < runLen digitB (c :: r) ∨ 1000000000 < numVal 0 ((c :: r).take (runLen digitB (c :: r)))
          · rw [if_pos hx] at h; exact h rfl
          · rw [if_neg hx] at h0; simp only at h0; omega
        · have hd' : digitB c = false := by simpa using hd
          simp only [hl', hd', Bool.false_eq_true, if_false] at h h0
          by_cases hx : symLen (c :: r) = 0
          · rw [if_pos hx] at h; exact h rfl
          · rw [if_neg hx] at h0; simp only at h0; omega
  · exact h0
theorem chain_of (l : List UInt8) : ∀ (f k : Nat), l.length - k < f → (∀ y ∈ yields l f k, y.err = 0) → Chain l k ((yields l f k).map (·.tk)) := by
  intro f
  induction f with
  | zero => intro k h; omega
  | succ f ih =>
    intro k hf h
    unfold yields at h ⊢
    by_cases hk : k < l.length
    · rw [if_pos hk] at h ⊢
      by_cases ht : (tokAt (l.drop k)).1 = 0
      · rw [if_pos ht] at h
        have := h _ (List.mem_singleton.2 rfl)
        rcases tok_err' _ ht with h2 | h2 <;> rw [h2] at this <;> simp at this
      · rw [if_neg ht] at h ⊢
        have hp := tok_pos' _ ht
        have hl := tok_len _ ht
        have hlen : ((l.drop k).take (tokAt (l.drop k)).2.1).length = (tokAt (l.drop k)).2.1 := by rw [List.length_take]; omega
        rw [List.length_drop] at hl
        have hg := posEnd_ge l (k + (tokAt (l.drop k)).2.1)
        refine ⟨hk, rfl, ht, ?_, ?_, ?_, ?_, ?_⟩
        · simp only [hlen]
        · simp only [hlen]
        · simp only [hlen]; exact hp
        · simp only [hlen]; omega
        · simp only [hlen]
          exact ih _ (by omega) (fun y hy => h y (by simp [hy]))
    · rw [if_neg hk]
      show l.length ≤ k
      omega
/-- a text without an error -/
theorem lex_chain (l : List UInt8) (h : (lexL l).2.1 = 0) : l.length ≤ 20000 ∧ (lexL l).2.2 = 0 ∧ (lexL l).1.length ≤ 6000 ∧ Chain l (posEnd l 0) (lexL l).1 := by
  obtain ⟨h1, h2, h3, h4⟩ := lex_ok l h
  rw [h4]
  refine ⟨h1, h2, by simpa using h3.1, ?_⟩
  exact chain_of l _ _ (by omega) h3.2
/-- what is said of each token -/
theorem chain_at (l : List UInt8) : ∀ (ts : List Tk) (k i : Nat) (t : Tk), Chain l k ts → ts[i]? = some t →
    t.kind ≠ 0 ∧ tokAt (l.drop t.off) = (t.kind, t.text.length, t.num) ∧ t.text = (l.drop t.off).take t.text.length ∧ 0 < t.text.length ∧ t.off + t.text.length ≤ l.length := by
  intro ts
  induction ts with
  | nil => intro k i t _ h; simp at h
  | cons a r ih =>
    intro k i t h hi
    obtain ⟨h1, h2, h3, h4, h5, h6, h7, h8⟩ := h
    cases i with
    | zero =>
      simp at hi; subst hi
      subst h2
      exact ⟨h3, h4, h5, h6, h7⟩
    | succ i => exact ih _ i t h8 (by simpa using hi)
end Go.Proofs.YtpdhiminpdmpiaaGreatDoor.Lx
/-
  No token can be extended by the byte that follows it: of the definitions.
-/
namespace Go.Proofs.YtpdhiminpdmpiaaGreatDoor.Lx
theorem run_next (p : UInt8 → Bool) : ∀ (l : List UInt8) (c : UInt8), l[runLen p l]? = some c → p c = false := by
  intro l
  induction l with
  | nil => intro c h; simp at h
  | cons a r ih =>
    intro c h
    unfold runLen at h
    by_cases ha : p a = true
    · rw [if_pos ha] at h
      exact ih c (by simpa using h)
    · rw [if_neg ha] at h
      simp at h
      subst h
      simpa using ha
theorem tok_kind (l : List UInt8) (k m n : Nat) (h : tokAt l = (k, m, n)) (hk : k ≠ 0) : (k = 1 ∧ m = runLen wordB l) ∨ (k = 2 ∧ m = runLen digitB l) ∨ (k = 3 ∧ m = symLen l ∧ m ≠ 0) := by
  cases l with
  | nil => simp [tokAt] at h; omega
  | cons c r =>
    unfold tokAt at h
    by_cases hl : letterB c = true
    · simp only [hl, if_true] at h
      split at h
      · simp at h; omega
      · simp at h; left; exact ⟨h.1.symm, h.2.1.symm⟩
    · have hl' : letterB c = false := by simpa using hl
      by_cases hd : digitB c = true
      · simp only [hl', hd, Bool.false_eq_true, if_false, if_true] at h
        split at h
        · simp at h; omega
        · simp at h; right; left; exact ⟨h.1.symm, h.2.1.symm⟩
      · have hd' : digitB c = false := by simpa using hd
        simp only [hl', hd', Bool.false_eq_true, if_false] at h
        split at h
        · simp at h; omega
        · rename_i hx
          simp at h; right; right; exact ⟨h.1.symm, h.2.1.symm, by rw [← h.2.1]; exact hx⟩
end Go.Proofs.YtpdhiminpdmpiaaGreatDoor.Lx
/-
  From a chain of tokens to what the lexer answers; two texts with a line feed between them; texts of tokens, each followed by a space.
-/
namespace Go.Proofs.YtpdhiminpdmpiaaGreatDoor.Lx
theorem chain_yields (l : List UInt8) : ∀ (ts : List Tk) (f k : Nat), l.length - k < f → Chain l k ts → yields l f k = ts.map (fun t => ⟨t, 0⟩) := by
  intro ts
  induction ts with
  | nil =>
    intro f k hf h
    cases f with
    | zero => omega
    | succ f =>
      have hk : l.length ≤ k := h
      unfold yields
      rw [if_neg (by omega)]; rfl
  | cons t r ih =>
    intro f k hf h
    obtain ⟨h1, h2, h3, h4, h5, h6, h7, h8⟩ := h
    cases f with
    | zero => omega
    | succ f =>
      unfold yields
      have hg := posEnd_ge l (k + t.text.length)
      rw [if_pos h1, h4]
      simp only
      rw [if_neg h3, ih f _ (by omega) h8, ← h5, List.map_cons]
      have e : (⟨t.kind, t.text, t.num, k⟩ : Tk) = t := by cases t; simp at h2; subst h2; rfl
      rw [e]
theorem chain_lex (l : List UInt8) (ts : List Tk) (hl : l.length ≤ 20000) (h : Chain l (posEnd l 0) ts) :
    (ts.length ≤ 6000 → lexL l = (ts, 0, 0)) ∧ (6000 < ts.length → (lexL l).2.1 = 2) := by
  have hy : allYields l = ts.map (fun t => ⟨t, 0⟩) := chain_yields l ts _ _ (by omega) h
  have e : lexL l = collect 0 (allYields l) [] := by unfold lexL; rw [if_neg (by omega)]
  constructor
  · intro hn
    rw [e, collect_done _ ⟨by rw [hy]; simpa using hn, by rw [hy]; intro y hy'; obtain ⟨t, _, rfl⟩ := List.mem_map.1 hy'; rfl⟩, hy]
    simp [List.map_map, Function.comp_def]
  · intro hn
    obtain ⟨t, ht⟩ : ∃ t, ts[6000]? = some t := ⟨ts[6000], List.getElem?_eq_getElem hn⟩
    have hs : ts = ts.take 6000 ++ t :: ts.drop 6001 := by
      have h1 : ts.drop 6000 = t :: ts.drop 6001 := by
        rw [List.drop_eq_getElem_cons hn]
        rw [List.getElem?_eq_getElem hn] at ht
        injection ht with ht
        rw [ht]
      rw [← h1, List.take_append_drop]
    rw [e, hy, hs, List.map_append, List.map_cons, collect_stop _ _ _ 2 ⟨⟨by rw [List.length_map, List.length_take]; exact Nat.min_le_left _ _, ?_⟩, .inr ⟨rfl, by simp; omega, rfl⟩⟩]
    intro y hy'
    obtain ⟨t, _, rfl⟩ := List.mem_map.1 hy'
    rfl
/-- a byte that ends every token: a space or a line feed -/
def Ends (c : UInt8) : Prop := c = 32 ∨ c = 10
theorem ends_word (c : UInt8) (h : Ends c) : wordB c = false ∧ digitB c = false := by rcases h with rfl | rfl <;> decide
theorem ends_sym (c : UInt8) (h : Ends c) (x : UInt8) : isSym [x, c] = false := by
  have h1 : ∀ y ∈ syms, (32 : UInt8) ∉ y ∧ (10 : UInt8) ∉ y := by decide
  cases hs : isSym [x, c] with
  | false => rfl
  | true =>
    exfalso
    have h2 := h1 [x, c] (by simpa [isSym] using hs)
    rcases h with rfl | rfl <;> simp at h2
theorem runLen_app (p : UInt8 → Bool) (c : UInt8) (r : List UInt8) (hc : p c = false) : ∀ (x : List UInt8), runLen p (x ++ c :: r) = runLen p x := by
  intro x
  induction x with
  | nil => simp [runLen, hc]
  | cons a x ih => simp only [List.cons_append, runLen, ih]
theorem symLen_app (x : List UInt8) (c : UInt8) (r : List UInt8) (hc : Ends c) (hx : x ≠ []) : symLen (x ++ c :: r) = symLen x := by
  rw [symLen_cases, symLen_cases x]
  match x, hx with
  | [a], _ =>
    have h1 := ends_sym c hc a
    simp [h1]
  | a :: b :: x, _ => simp
theorem runLen_le' (p : UInt8 → Bool) (l : List UInt8) : runLen p l ≤ l.length := by
  have := runLen_take p l l.length; rw [List.take_length] at this; omega
/-- a token is there also if such a byte and more follow -/
theorem tok_app (x : List UInt8) (c : UInt8) (r : List UInt8) (hc : Ends c) (hx : x ≠ []) : tokAt (x ++ c :: r) = tokAt x := by
  obtain ⟨hw, hd⟩ := ends_word c hc
  have e1 := runLen_app wordB c r hw x
  have e2 := runLen_app digitB c r hd x
  have e3 := symLen_app x c r hc hx
  have e4 : (x ++ c :: r).take (runLen digitB x) = x.take (runLen digitB x) := by
    rw [List.take_append_of_le_length (runLen_le' _ _)]
  cases x with
  | nil => exact absurd rfl hx
  | cons a x =>
    rw [List.cons_append] at *
    unfold tokAt
    simp only [e1, e2, e3, e4]
theorem gap_app (c : UInt8) (hc : c = 10) (y : List UInt8) : ∀ (b : Bool) (x : List UInt8), gapLen b (x ++ c :: y) = if gapLen b x < x.length then gapLen b x else x.length + 1 + gapLen false y := by
  intro b x
  induction x generalizing b with
  | nil =>
    subst hc
    have hb : blankB 10 = true := by decide
    cases b <;> simp [gapLen, hb] <;> omega
  | cons a x ih =>
    have f1 : ∀ z : List UInt8, gapLen false (a :: z) = if blankB a = true then gapLen false z + 1 else if (a == 35) = true then gapLen true z + 1 else 0 := fun z => by
      rw [gapLen]
    have f2 : ∀ z : List UInt8, gapLen true (a :: z) = if (a == 10) = true then gapLen false z + 1 else gapLen true z + 1 := fun z => by
      rw [gapLen]
    rw [List.cons_append, List.length_cons]
    cases b
    · rw [f1, f1]
      by_cases h1 : blankB a = true
      · rw [if_pos h1, if_pos h1, ih]; split <;> split <;> omega
      · rw [if_neg h1, if_neg h1]
        by_cases h2 : (a == 35) = true
        · rw [if_pos h2, if_pos h2, ih]; split <;> split <;> omega
        · rw [if_neg h2, if_neg h2, if_pos (by omega)]
    · rw [f2, f2]
      by_cases h2 : (a == 10) = true
      · rw [if_pos h2, if_pos h2, ih]; split <;> split <;> omega
      · rw [if_neg h2, if_neg h2, ih]; split <;> split <;> omega
def shift (d : Nat) (t : Tk) : Tk := { t with off := t.off + d }
theorem chain_shift (p b : List UInt8) : ∀ (ys : List Tk) (k : Nat), Chain b k ys → Chain (p ++ b) (p.length + k) (ys.map (shift p.length)) := by
  intro ys
  induction ys with
  | nil => intro k h; show (p ++ b).length ≤ p.length + k; have : b.length ≤ k := h; rw [List.length_append]; omega
  | cons t r ih =>
    intro k h
    obtain ⟨h1, h2, h3, h4, h5, h6, h7, h8⟩ := h
    have ed : (p ++ b).drop (p.length + k) = b.drop k := by rw [List.drop_append]; simp
    have ep : posEnd (p ++ b) (p.length + k + t.text.length) = p.length + posEnd b (k + t.text.length) := by
      unfold posEnd
      have ed' : (p ++ b).drop (p.length + k + t.text.length) = b.drop (k + t.text.length) := by
        rw [show p.length + k + t.text.length = p.length + (k + t.text.length) from by omega, List.drop_append]; simp
      rw [ed']; omega
    refine ⟨by rw [List.length_append]; omega, ?_, h3, ?_, ?_, h6, by rw [List.length_append]; show p.length + k + t.text.length ≤ _; omega, ?_⟩
    · show t.off + p.length = _; omega
    · rw [ed]; exact h4
    · rw [ed]; exact h5
    · show Chain (p ++ b) (posEnd (p ++ b) (p.length + k + t.text.length)) (r.map (shift p.length))
      rw [ep]; exact ih _ h8
theorem pos_app (a b : List UInt8) (k : Nat) (hk : k ≤ a.length) : posEnd (a ++ 10 :: b) k = if posEnd a k < a.length then posEnd a k else a.length + 1 + posEnd b 0 := by
  unfold posEnd
  rw [List.drop_append_of_le_length hk, gap_app 10 rfl]
  have h1 := gapLen_le' false (a.drop k)
  rw [List.length_drop] at *
  simp only [List.drop_zero]
  split <;> split <;> omega
theorem chain_app (a b : List UInt8) (ys : List Tk) (hb : Chain b (posEnd b 0) ys) : ∀ (xs : List Tk) (k : Nat), Chain a k xs →
    Chain (a ++ 10 :: b) (if k < a.length then k else a.length + 1 + posEnd b 0) (xs ++ ys.map (shift (a.length + 1))) := by
  intro xs
  induction xs with
  | nil =>
    intro k h
    have hk : a.length ≤ k := h
    rw [if_neg (by omega)]
    have := chain_shift (a ++ [10]) b ys _ hb
    simpa using this
  | cons t r ih =>
    intro k h
    obtain ⟨h1, h2, h3, h4, h5, h6, h7, h8⟩ := h
    rw [if_pos h1]
    have ed : (a ++ 10 :: b).drop k = a.drop k ++ 10 :: b := List.drop_append_of_le_length (by omega)
    have hne : a.drop k ≠ [] := by intro h0; have : (a.drop k).length = 0 := by rw [h0]; rfl
                                   rw [List.length_drop] at this; omega
    refine ⟨by rw [List.length_append]; omega, h2, h3, ?_, ?_, h6, by rw [List.length_append]; omega, ?_⟩
    · rw [ed, tok_app _ 10 _ (.inr rfl) hne]; exact h4
    · rw [ed, List.take_append_of_le_length (by rw [List.length_drop]; omega)]; exact h5
    · rw [pos_app a b _ h7]; exact ih _ h8
/-- P1.4, of the definitions -/
theorem lex_concat (a b : List UInt8) (xs ys : List Tk) (ha : Chain a (posEnd a 0) xs) (hb : Chain b (posEnd b 0) ys) :
    Chain (a ++ 10 :: b) (posEnd (a ++ 10 :: b) 0) (xs ++ ys.map (shift (a.length + 1))) := by
  rw [pos_app a b 0 (by omega)]
  exact chain_app a b ys hb xs _ ha
/-- what each token of a text without an error is by itself -/
def Whole (t : Tk) : Prop := t.kind ≠ 0 ∧ tokAt t.text = (t.kind, t.text.length, t.num) ∧ 0 < t.text.length
theorem chain_whole (l : List UInt8) (ts : List Tk) (k : Nat) (h : Chain l k ts) : ∀ t ∈ ts, Whole t := by
  intro t ht
  obtain ⟨i, hi, hx⟩ := List.getElem_of_mem ht
  obtain ⟨h1, h2, h3, h4, h5⟩ := chain_at l ts k i t h (by rw [List.getElem?_eq_getElem hi, hx])
  refine ⟨h1, ?_, h4⟩
  have := tok_take (l.drop t.off) t.text.length (by rw [h2]; exact h1) (by rw [h2]; exact Nat.le_refl _)
  rw [← h3, h2] at this
  exact this
theorem whole_gap (t : Tk) (h : Whole t) (r : List UInt8) : gapLen false (t.text ++ r) = 0 := by
  obtain ⟨h1, h2, h3⟩ := h
  match hx : t.text, h3 with
  | c :: x, _ =>
    rw [hx] at h2
    have hb : blankB c = false ∧ c ≠ 35 := by
      constructor
      · cases hb : blankB c with
        | false => rfl
        | true =>
          exfalso
          have hc : c = 32 ∨ c = 9 ∨ c = 13 ∨ c = 10 := by
            have : ∀ n, clsN n = 1 → n = 32 ∨ n = 9 ∨ n = 13 ∨ n = 10 := by
              intro n hn; unfold clsN at hn; repeat' split at hn
              all_goals first | omega | assumption
            have h4 := this c.toNat (by simpa [blankB] using hb)
            rcases h4 with h4 | h4 | h4 | h4
            · left; exact UInt8.toNat_inj.1 h4
            · right; left; exact UInt8.toNat_inj.1 h4
            · right; right; left; exact UInt8.toNat_inj.1 h4
            · right; right; right; exact UInt8.toNat_inj.1 h4
          have hz : symLen (c :: x) = 0 := by
            have h5 : ∀ y ∈ syms, ∀ d, y.head? = some d → d ≠ 32 ∧ d ≠ 9 ∧ d ≠ 13 ∧ d ≠ 10 := by decide
            have h6 : ∀ n, isSym ((c :: x).take (n + 1)) = false := by
              intro n
              cases hs : isSym ((c :: x).take (n + 1)) with
              | false => rfl
              | true =>
                exfalso
                have := h5 _ (by simpa [isSym] using hs) c (by simp)
                rcases hc with rfl | rfl | rfl | rfl <;> simp at this
            rw [symLen_cases, h6 1, h6 0]
            simp
          unfold tokAt at h2
          have hl : letterB c = false ∧ digitB c = false := by rcases hc with rfl | rfl | rfl | rfl <;> decide
          simp only [hl.1, hl.2, hz, Bool.false_eq_true, if_false, if_true] at h2
          simp at h2
      · rintro rfl
        have hz : symLen (35 :: x) = 0 := by
          have h5 : ∀ y ∈ syms, ∀ d, y.head? = some d → d ≠ 35 := by decide
          have h6 : ∀ n, isSym ((35 :: x).take (n + 1)) = false := by
            intro n
            cases hs : isSym ((35 :: x).take (n + 1)) with
            | false => rfl
            | true =>
              exfalso
              have := h5 _ (by simpa [isSym] using hs) 35 (by simp)
              simp at this
          rw [symLen_cases, h6 1, h6 0]
          simp
        unfold tokAt at h2
        have hl : letterB 35 = false ∧ digitB 35 = false := by decide
        simp only [hl.1, hl.2, hz, Bool.false_eq_true, if_false, if_true] at h2
        simp at h2
    rw [List.cons_append]
    unfold gapLen
    rw [if_neg (by rw [hb.1]; simp), if_neg (by simpa using hb.2)]
end Go.Proofs.YtpdhiminpdmpiaaGreatDoor.Lx
/-
  The tokens of the beginnings of a text.
-/
set_option linter.unusedVariables false
set_option linter.unusedSimpArgs false
set_option linter.unusedSectionVars false
namespace Go.Proofs.YtpdhiminpdmpiaaGreatDoor.Lx
theorem chain_cut (l : List UInt8) (o : Nat) (ho : o ≤ l.length) : ∀ (xs r : List Tk) (k : Nat), Chain l k (xs ++ r) → (∀ t ∈ xs, t.off + t.text.length ≤ o) →
    (match xs.getLast? with | none => o ≤ k | some t => o ≤ posEnd l (t.off + t.text.length)) → Chain (l.take o) (min k o) xs := by
  intro xs
  induction xs with
  | nil =>
    intro r k h h1 h2
    simp at h2
    show (l.take o).length ≤ min k o
    rw [List.length_take]; omega
  | cons t xs ih =>
    intro r k h h1 h2
    obtain ⟨g1, g2, g3, g4, g5, g6, g7, g8⟩ := h
    have hto := h1 t (by simp)
    rw [g2] at hto
    have hk : min k o = k := by omega
    rw [hk]
    have ed : (l.take o).drop k = (l.drop k).take (o - k) := List.drop_take ..
    have et : tokAt ((l.take o).drop k) = tokAt (l.drop k) := by
      rw [ed]; exact tok_take _ _ (by rw [g4]; exact g3) (by rw [g4]; simp; omega)
    have ep : posEnd (l.take o) (k + t.text.length) = min (posEnd l (k + t.text.length)) o := by
      unfold posEnd
      rw [List.drop_take, gapLen_take]; omega
    refine ⟨by rw [List.length_take]; omega, g2, g3, by rw [et]; exact g4, ?_, g6, by rw [List.length_take]; omega, ?_⟩
    · rw [ed, List.take_take, Nat.min_eq_left (by omega)]; exact g5
    · rw [ep]
      refine ih r _ g8 (fun t' ht' => h1 t' (by simp [ht'])) ?_
      cases hx : xs.getLast? with
      | none =>
        rw [List.getLast?_eq_none_iff] at hx
        subst hx
        simp at h2
        rw [g2] at h2
        exact h2
      | some u =>
        rw [List.getLast?_cons, hx] at h2
        exact h2
theorem chain_split (l : List UInt8) (t : Tk) (r : List Tk) : ∀ (xs : List Tk) (k : Nat), Chain l k (xs ++ t :: r) → (∀ u ∈ xs, u.off + u.text.length ≤ t.off) ∧ k ≤ t.off ∧
    (match xs.getLast? with | none => t.off = k | some u => t.off = posEnd l (u.off + u.text.length)) := by
  intro xs
  induction xs with
  | nil =>
    intro k h
    obtain ⟨g1, g2, _⟩ := h
    exact ⟨(fun u hu => by cases hu), by omega, by simpa using g2⟩
  | cons u xs ih =>
    intro k h
    obtain ⟨g1, g2, g3, g4, g5, g6, g7, g8⟩ := h
    obtain ⟨i1, i2, i3⟩ := ih _ g8
    have hg := posEnd_ge l (k + u.text.length)
    refine ⟨?_, by omega, ?_⟩
    · intro u' hu'
      rcases List.mem_cons.1 hu' with rfl | hu'
      · omega
      · exact i1 u' hu'
    · rw [List.getLast?_cons]
      cases hx : xs.getLast? with
      | none =>
        rw [hx] at i3
        simp only at i3
        simp only [Option.getD_none]
        rw [i3, g2]
      | some v =>
        rw [hx] at i3
        exact i3
theorem pos_take (l : List UInt8) (o : Nat) (ho : o ≤ l.length) : posEnd (l.take o) 0 = min (posEnd l 0) o := by
  unfold posEnd
  rw [List.drop_zero, List.drop_zero, gapLen_take]; omega
/-- the text before a token -/
theorem lex_before {l : List UInt8} {xs r : List Tk} {t : Tk} {a : Nat} (h : lexL l = (xs ++ t :: r, 0, a)) : lexL (l.take t.off) = (xs, 0, 0) ∧ t.off + t.text.length ≤ l.length ∧ 0 < t.text.length := by
  obtain ⟨h1, h2, h3, h4⟩ := lex_chain l (by rw [h])
  rw [h] at h3 h4
  simp only at h3 h4
  obtain ⟨i1, i2, i3⟩ := chain_split l t r xs _ h4
  obtain ⟨_, _, _, c4, c5⟩ := chain_at l _ _ xs.length t h4 (by simp)
  refine ⟨?_, c5, c4⟩
  have hc := chain_cut l t.off (by omega) xs (t :: r) _ h4 i1 (by
    cases hx : xs.getLast? with
    | none => rw [hx] at i3; simp only at i3 ⊢; omega
    | some u => rw [hx] at i3; simp only at i3 ⊢; omega)
  rw [← pos_take l _ (by omega)] at hc
  exact (chain_lex _ _ (by rw [List.length_take]; omega) hc).1 (by simp at h3; omega)
/-- the text up to the end of a token -/
theorem lex_upto {l : List UInt8} {xs r : List Tk} {t : Tk} {a : Nat} (h : lexL l = (xs ++ t :: r, 0, a)) : lexL (l.take (t.off + t.text.length)) = (xs ++ [t], 0, 0) := by
  obtain ⟨h1, h2, h3, h4⟩ := lex_chain l (by rw [h])
  rw [h] at h3 h4
  simp only at h3 h4
  obtain ⟨i1, i2, i3⟩ := chain_split l t r xs _ h4
  obtain ⟨_, _, _, c4, c5⟩ := chain_at l _ _ xs.length t h4 (by simp)
  have hc := chain_cut l (t.off + t.text.length) c5 (xs ++ [t]) r _ (by simpa using h4) (by
    intro u hu
    rcases List.mem_append.1 hu with hu | hu
    · have := i1 u hu; omega
    · simp at hu; subst hu; exact Nat.le_refl _) (by simp; exact posEnd_ge _ _)
  rw [← pos_take l _ c5] at hc
  exact (chain_lex _ _ (by rw [List.length_take]; omega) hc).1 (by simp at h3 ⊢; omega)
/-- offsets increase -/
theorem lex_place {l : List UInt8} {xs r : List Tk} {t : Tk} {a : Nat} (h : lexL l = (xs ++ t :: r, 0, a)) : ∀ u ∈ xs, u.off ≠ t.off := by
  obtain ⟨_, _, _, h4⟩ := lex_chain l (by rw [h])
  rw [h] at h4
  simp only at h4
  obtain ⟨i1, _, _⟩ := chain_split l t r xs _ h4
  intro u hu
  have hi := i1 u hu
  obtain ⟨i, hi2, hx⟩ := List.getElem_of_mem (List.mem_append_left (t :: r) hu)
  obtain ⟨_, _, _, c4, _⟩ := chain_at l _ _ i u h4 (by rw [List.getElem?_eq_getElem hi2, hx])
  omega
end Go.Proofs.YtpdhiminpdmpiaaGreatDoor.Lx
