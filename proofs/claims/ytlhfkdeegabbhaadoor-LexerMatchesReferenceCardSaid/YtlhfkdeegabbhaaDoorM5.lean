/-
  From a chain of tokens to what the lexer answers; two texts with a line feed between them; texts of tokens, each followed by a space.
-/
import Derived.Test.YtlhfkdeegabbhaaDoorM4
namespace Go.Proofs.YtlhfkdeegabbhaaDoor.Lx

theorem chain_yields (l : List UInt8) : ∀ (ts : List Tk) (f k : Nat), l.length - k < f → Chain l k ts → yields l f k = ts.map (fun t => ⟨t, 0⟩) := by
  intro ts
  induction ts with
  | nil =>
    intro f k hf h
    cases f with
    | zero => omega
    | succ f =>
      have hk : l.length ≤ k := h
      unfold yields
      rw [if_neg (by omega)]; rfl
  | cons t r ih =>
    intro f k hf h
    obtain ⟨h1, h2, h3, h4, h5, h6, h7, h8⟩ := h
    cases f with
    | zero => omega
    | succ f =>
      unfold yields
      have hg := posEnd_ge l (k + t.text.length)
      rw [if_pos h1, h4]
      simp only
      rw [if_neg h3, ih f _ (by omega) h8, ← h5, List.map_cons]
      have e : (⟨t.kind, t.text, t.num, k⟩ : Tk) = t := by cases t; simp at h2; subst h2; rfl
      rw [e]
theorem chain_lex (l : List UInt8) (ts : List Tk) (hl : l.length ≤ 20000) (h : Chain l (posEnd l 0) ts) :
    (ts.length ≤ 6000 → lexL l = (ts, 0, 0)) ∧ (6000 < ts.length → (lexL l).2.1 = 2) := by
  have hy : allYields l = ts.map (fun t => ⟨t, 0⟩) := chain_yields l ts _ _ (by omega) h
  have e : lexL l = collect 0 (allYields l) [] := by unfold lexL; rw [if_neg (by omega)]
  constructor
  · intro hn
    rw [e, collect_done _ ⟨by rw [hy]; simpa using hn, by rw [hy]; intro y hy'; obtain ⟨t, _, rfl⟩ := List.mem_map.1 hy'; rfl⟩, hy]
    simp [List.map_map, Function.comp_def]
  · intro hn
    obtain ⟨t, ht⟩ : ∃ t, ts[6000]? = some t := ⟨ts[6000], List.getElem?_eq_getElem hn⟩
    have hs : ts = ts.take 6000 ++ t :: ts.drop 6001 := by
      have h1 : ts.drop 6000 = t :: ts.drop 6001 := by
        rw [List.drop_eq_getElem_cons hn]
        rw [List.getElem?_eq_getElem hn] at ht
        injection ht with ht
        rw [ht]
      rw [← h1, List.take_append_drop]
    rw [e, hy, hs, List.map_append, List.map_cons, collect_stop _ _ _ 2 ⟨⟨by rw [List.length_map, List.length_take]; exact Nat.min_le_left _ _, ?_⟩, .inr ⟨rfl, by simp; omega, rfl⟩⟩]
    intro y hy'
    obtain ⟨t, _, rfl⟩ := List.mem_map.1 hy'
    rfl

/-- a byte that ends every token: a space or a line feed -/
def Ends (c : UInt8) : Prop := c = 32 ∨ c = 10
theorem ends_word (c : UInt8) (h : Ends c) : wordB c = false ∧ digitB c = false := by rcases h with rfl | rfl <;> decide
theorem ends_sym (c : UInt8) (h : Ends c) (x : UInt8) : isSym [x, c] = false := by
  have h1 : ∀ y ∈ syms, (32 : UInt8) ∉ y ∧ (10 : UInt8) ∉ y := by decide
  cases hs : isSym [x, c] with
  | false => rfl
  | true =>
    exfalso
    have h2 := h1 [x, c] (by simpa [isSym] using hs)
    rcases h with rfl | rfl <;> simp at h2
theorem runLen_app (p : UInt8 → Bool) (c : UInt8) (r : List UInt8) (hc : p c = false) : ∀ (x : List UInt8), runLen p (x ++ c :: r) = runLen p x := by
  intro x
  induction x with
  | nil => simp [runLen, hc]
  | cons a x ih => simp only [List.cons_append, runLen, ih]
theorem symLen_app (x : List UInt8) (c : UInt8) (r : List UInt8) (hc : Ends c) (hx : x ≠ []) : symLen (x ++ c :: r) = symLen x := by
  rw [symLen_cases, symLen_cases x]
  match x, hx with
  | [a], _ =>
    have h1 := ends_sym c hc a
    simp [h1]
  | a :: b :: x, _ => simp
theorem runLen_le' (p : UInt8 → Bool) (l : List UInt8) : runLen p l ≤ l.length := by
  have := runLen_take p l l.length; rw [List.take_length] at this; omega
/-- a token is there also if such a byte and more follow -/
theorem tok_app (x : List UInt8) (c : UInt8) (r : List UInt8) (hc : Ends c) (hx : x ≠ []) : tokAt (x ++ c :: r) = tokAt x := by
  obtain ⟨hw, hd⟩ := ends_word c hc
  have e1 := runLen_app wordB c r hw x
  have e2 := runLen_app digitB c r hd x
  have e3 := symLen_app x c r hc hx
  have e4 : (x ++ c :: r).take (runLen digitB x) = x.take (runLen digitB x) := by
    rw [List.take_append_of_le_length (runLen_le' _ _)]
  cases x with
  | nil => exact absurd rfl hx
  | cons a x =>
    rw [List.cons_append] at *
    unfold tokAt
    simp only [e1, e2, e3, e4]
theorem gap_app (c : UInt8) (hc : c = 10) (y : List UInt8) : ∀ (b : Bool) (x : List UInt8), gapLen b (x ++ c :: y) = if gapLen b x < x.length then gapLen b x else x.length + 1 + gapLen false y := by
  intro b x
  induction x generalizing b with
  | nil =>
    subst hc
    have hb : blankB 10 = true := by decide
    cases b <;> simp [gapLen, hb] <;> omega
  | cons a x ih =>
    have f1 : ∀ z : List UInt8, gapLen false (a :: z) = if blankB a = true then gapLen false z + 1 else if (a == 35) = true then gapLen true z + 1 else 0 := fun z => by
      rw [gapLen]
    have f2 : ∀ z : List UInt8, gapLen true (a :: z) = if (a == 10) = true then gapLen false z + 1 else gapLen true z + 1 := fun z => by
      rw [gapLen]
    rw [List.cons_append, List.length_cons]
    cases b
    · rw [f1, f1]
      by_cases h1 : blankB a = true
      · rw [if_pos h1, if_pos h1, ih]; split <;> split <;> omega
      · rw [if_neg h1, if_neg h1]
        by_cases h2 : (a == 35) = true
        · rw [if_pos h2, if_pos h2, ih]; split <;> split <;> omega
        · rw [if_neg h2, if_neg h2, if_pos (by omega)]
    · rw [f2, f2]
      by_cases h2 : (a == 10) = true
      · rw [if_pos h2, if_pos h2, ih]; split <;> split <;> omega
      · rw [if_neg h2, if_neg h2, ih]; split <;> split <;> omega

def shift (d : Nat) (t : Tk) : Tk := { t with off := t.off + d }
theorem chain_shift (p b : List UInt8) : ∀ (ys : List Tk) (k : Nat), Chain b k ys → Chain (p ++ b) (p.length + k) (ys.map (shift p.length)) := by
  intro ys
  induction ys with
  | nil => intro k h; show (p ++ b).length ≤ p.length + k; have : b.length ≤ k := h; rw [List.length_append]; omega
  | cons t r ih =>
    intro k h
    obtain ⟨h1, h2, h3, h4, h5, h6, h7, h8⟩ := h
    have ed : (p ++ b).drop (p.length + k) = b.drop k := by rw [List.drop_append]; simp
    have ep : posEnd (p ++ b) (p.length + k + t.text.length) = p.length + posEnd b (k + t.text.length) := by
      unfold posEnd
      have ed' : (p ++ b).drop (p.length + k + t.text.length) = b.drop (k + t.text.length) := by
        rw [show p.length + k + t.text.length = p.length + (k + t.text.length) from by omega, List.drop_append]; simp
      rw [ed']; omega
    refine ⟨by rw [List.length_append]; omega, ?_, h3, ?_, ?_, h6, by rw [List.length_append]; show p.length + k + t.text.length ≤ _; omega, ?_⟩
    · show t.off + p.length = _; omega
    · rw [ed]; exact h4
    · rw [ed]; exact h5
    · show Chain (p ++ b) (posEnd (p ++ b) (p.length + k + t.text.length)) (r.map (shift p.length))
      rw [ep]; exact ih _ h8
theorem pos_app (a b : List UInt8) (k : Nat) (hk : k ≤ a.length) : posEnd (a ++ 10 :: b) k = if posEnd a k < a.length then posEnd a k else a.length + 1 + posEnd b 0 := by
  unfold posEnd
  rw [List.drop_append_of_le_length hk, gap_app 10 rfl]
  have h1 := gapLen_le' false (a.drop k)
  rw [List.length_drop] at *
  simp only [List.drop_zero]
  split <;> split <;> omega
theorem chain_app (a b : List UInt8) (ys : List Tk) (hb : Chain b (posEnd b 0) ys) : ∀ (xs : List Tk) (k : Nat), Chain a k xs →
    Chain (a ++ 10 :: b) (if k < a.length then k else a.length + 1 + posEnd b 0) (xs ++ ys.map (shift (a.length + 1))) := by
  intro xs
  induction xs with
  | nil =>
    intro k h
    have hk : a.length ≤ k := h
    rw [if_neg (by omega)]
    have := chain_shift (a ++ [10]) b ys _ hb
    simpa using this
  | cons t r ih =>
    intro k h
    obtain ⟨h1, h2, h3, h4, h5, h6, h7, h8⟩ := h
    rw [if_pos h1]
    have ed : (a ++ 10 :: b).drop k = a.drop k ++ 10 :: b := List.drop_append_of_le_length (by omega)
    have hne : a.drop k ≠ [] := by intro h0; have : (a.drop k).length = 0 := by rw [h0]; rfl
                                   rw [List.length_drop] at this; omega
    refine ⟨by rw [List.length_append]; omega, h2, h3, ?_, ?_, h6, by rw [List.length_append]; omega, ?_⟩
    · rw [ed, tok_app _ 10 _ (.inr rfl) hne]; exact h4
    · rw [ed, List.take_append_of_le_length (by rw [List.length_drop]; omega)]; exact h5
    · rw [pos_app a b _ h7]; exact ih _ h8
/-- P1.4, of the definitions -/
theorem lex_concat (a b : List UInt8) (xs ys : List Tk) (ha : Chain a (posEnd a 0) xs) (hb : Chain b (posEnd b 0) ys) :
    Chain (a ++ 10 :: b) (posEnd (a ++ 10 :: b) 0) (xs ++ ys.map (shift (a.length + 1))) := by
  rw [pos_app a b 0 (by omega)]
  exact chain_app a b ys hb xs _ ha

/-! ### texts of tokens, each followed by a space -/
def sepText : List Tk → List UInt8
  | [] => []
  | t :: r => t.text ++ 32 :: sepText r
def sepToks : Nat → List Tk → List Tk
  | _, [] => []
  | k, t :: r => { t with off := k } :: sepToks (k + t.text.length + 1) r
theorem sep_len : ∀ (ts : List Tk) (k : Nat), (sepToks k ts).length = ts.length := by
  intro ts
  induction ts with
  | nil => intro k; rfl
  | cons t r ih => intro k; simp [sepToks, ih]
theorem sep_get : ∀ (ts : List Tk) (k i : Nat) (t : Tk), ts[i]? = some t → ∃ o, (sepToks k ts)[i]? = some { t with off := o } := by
  intro ts
  induction ts with
  | nil => intro k i t h; simp at h
  | cons a r ih =>
    intro k i t h
    cases i with
    | zero => simp at h; subst h; exact ⟨k, rfl⟩
    | succ i => exact ih _ i t (by simpa using h)
/-- what each token of a text without an error is by itself -/
def Whole (t : Tk) : Prop := t.kind ≠ 0 ∧ tokAt t.text = (t.kind, t.text.length, t.num) ∧ 0 < t.text.length
theorem chain_whole (l : List UInt8) (ts : List Tk) (k : Nat) (h : Chain l k ts) : ∀ t ∈ ts, Whole t := by
  intro t ht
  obtain ⟨i, hi, hx⟩ := List.getElem_of_mem ht
  obtain ⟨h1, h2, h3, h4, h5⟩ := chain_at l ts k i t h (by rw [List.getElem?_eq_getElem hi, hx])
  refine ⟨h1, ?_, h4⟩
  have := tok_take (l.drop t.off) t.text.length (by rw [h2]; exact h1) (by rw [h2]; exact Nat.le_refl _)
  rw [← h3, h2] at this
  exact this
theorem whole_gap (t : Tk) (h : Whole t) (r : List UInt8) : gapLen false (t.text ++ r) = 0 := by
  obtain ⟨h1, h2, h3⟩ := h
  match hx : t.text, h3 with
  | c :: x, _ =>
    rw [hx] at h2
    have hb : blankB c = false ∧ c ≠ 35 := by
      constructor
      · cases hb : blankB c with
        | false => rfl
        | true =>
          exfalso
          have hc : c = 32 ∨ c = 9 ∨ c = 13 ∨ c = 10 := by
            have : ∀ n, clsN n = 1 → n = 32 ∨ n = 9 ∨ n = 13 ∨ n = 10 := by
              intro n hn; unfold clsN at hn; repeat' split at hn
              all_goals first | omega | assumption
            have h4 := this c.toNat (by simpa [blankB] using hb)
            rcases h4 with h4 | h4 | h4 | h4
            · left; exact UInt8.toNat_inj.1 h4
            · right; left; exact UInt8.toNat_inj.1 h4
            · right; right; left; exact UInt8.toNat_inj.1 h4
            · right; right; right; exact UInt8.toNat_inj.1 h4
          have hz : symLen (c :: x) = 0 := by
            have h5 : ∀ y ∈ syms, ∀ d, y.head? = some d → d ≠ 32 ∧ d ≠ 9 ∧ d ≠ 13 ∧ d ≠ 10 := by decide
            have h6 : ∀ n, isSym ((c :: x).take (n + 1)) = false := by
              intro n
              cases hs : isSym ((c :: x).take (n + 1)) with
              | false => rfl
              | true =>
                exfalso
                have := h5 _ (by simpa [isSym] using hs) c (by simp)
                rcases hc with rfl | rfl | rfl | rfl <;> simp at this
            rw [symLen_cases, h6 1, h6 0]
            simp
          unfold tokAt at h2
          have hl : letterB c = false ∧ digitB c = false := by rcases hc with rfl | rfl | rfl | rfl <;> decide
          simp only [hl.1, hl.2, hz, Bool.false_eq_true, if_false, if_true] at h2
          simp at h2
      · rintro rfl
        have hz : symLen (35 :: x) = 0 := by
          have h5 : ∀ y ∈ syms, ∀ d, y.head? = some d → d ≠ 35 := by decide
          have h6 : ∀ n, isSym ((35 :: x).take (n + 1)) = false := by
            intro n
            cases hs : isSym ((35 :: x).take (n + 1)) with
            | false => rfl
            | true =>
              exfalso
              have := h5 _ (by simpa [isSym] using hs) 35 (by simp)
              simp at this
          rw [symLen_cases, h6 1, h6 0]
          simp
        unfold tokAt at h2
        have hl : letterB 35 = false ∧ digitB 35 = false := by decide
        simp only [hl.1, hl.2, hz, Bool.false_eq_true, if_false, if_true] at h2
        simp at h2
    rw [List.cons_append]
    unfold gapLen
    rw [if_neg (by rw [hb.1]; simp), if_neg (by simpa using hb.2)]
theorem sep_gap (ts : List Tk) (h : ∀ t ∈ ts, Whole t) : gapLen false (sepText ts) = 0 := by
  cases ts with
  | nil => rfl
  | cons t r => exact whole_gap t (h t (by simp)) _
theorem sep_chain : ∀ (ts : List Tk) (p : List UInt8), (∀ t ∈ ts, Whole t) → Chain (p ++ sepText ts) p.length (sepToks p.length ts) := by
  intro ts
  induction ts with
  | nil => intro p _; show (p ++ []).length ≤ p.length; simp
  | cons t r ih =>
    intro p h
    have ht := h t (by simp)
    have hr : ∀ t ∈ r, Whole t := fun x hx => h x (by simp [hx])
    obtain ⟨h1, h2, h3⟩ := ht
    have ed : (p ++ sepText (t :: r)).drop p.length = t.text ++ 32 :: sepText r := by simp [sepText]
    have hne : t.text ≠ [] := by intro h0; rw [h0] at h3; simp at h3
    refine ⟨by simp [sepText]; omega, rfl, h1, ?_, ?_, h3, by simp [sepText], ?_⟩
    · rw [ed, tok_app _ 32 _ (.inl rfl) hne]; exact h2
    · rw [ed]; simp
    · show Chain _ (posEnd (p ++ sepText (t :: r)) (p.length + t.text.length)) (sepToks (p.length + t.text.length + 1) r)
      have e1 : p ++ sepText (t :: r) = (p ++ t.text ++ [32]) ++ sepText r := by simp [sepText]
      have hb : blankB 32 = true := by decide
      have e2 : posEnd (p ++ sepText (t :: r)) (p.length + t.text.length) = p.length + t.text.length + 1 := by
        unfold posEnd
        have : (p ++ sepText (t :: r)).drop (p.length + t.text.length) = 32 :: sepText r := by
          rw [show p ++ sepText (t :: r) = (p ++ t.text) ++ (32 :: sepText r) from by simp [sepText]]
          rw [show p.length + t.text.length = (p ++ t.text).length from by simp]
          simp
        rw [this]
        simp only [gapLen]
        rw [if_pos hb, sep_gap r hr]
      have := ih (p ++ t.text ++ [32]) hr
      rw [e2, e1]
      simpa [Nat.add_assoc] using this
/-- P1.5, of the definitions -/
theorem lex_separate (l : List UInt8) (ts : List Tk) (k : Nat) (h : Chain l k ts) (hn : ts.length ≤ 6000) (hs : (sepText ts).length ≤ 20000) : lexL (sepText ts) = (sepToks 0 ts, 0, 0) := by
  have hw := chain_whole l ts k h
  have hc := sep_chain ts [] hw
  simp only [List.nil_append, List.length_nil] at hc
  have hp : posEnd (sepText ts) 0 = 0 := by unfold posEnd; rw [List.drop_zero, sep_gap ts hw]
  refine (chain_lex _ _ hs ?_).1 (by rw [sep_len]; exact hn)
  rw [hp]; exact hc
end Go.Proofs.YtlhfkdeegabbhaaDoor.Lx
