/-
  The tokens of a text in which the second token is replaced by a word; a text with a further semicolon.
-/
import Derived.Test.YtefihbhcdocgfaaGreatDoorZA
set_option linter.unusedVariables false
set_option linter.unusedSimpArgs false
set_option linter.unusedSectionVars false

namespace Go.Proofs.YtefihbhcdocgfaaGreatDoor.Lx

theorem gap_f (a : UInt8) (z : List UInt8) : gapLen false (a :: z) = if blankB a = true then gapLen false z + 1 else if (a == 35) = true then gapLen true z + 1 else 0 := by rw [gapLen]
theorem gap_t (a : UInt8) (z : List UInt8) : gapLen true (a :: z) = if (a == 10) = true then gapLen false z + 1 else gapLen true z + 1 := by rw [gapLen]
theorem gap_pre (y : List UInt8) : ∀ (b : Bool) (x : List UInt8), gapLen b x < x.length → gapLen b (x ++ y) = gapLen b x := by
  intro b x
  induction x generalizing b with
  | nil => intro h; simp at h
  | cons a x ih =>
    intro h
    rw [List.cons_append]
    cases b
    · rw [gap_f] at h ⊢
      rw [gap_f]
      by_cases h1 : blankB a = true
      · rw [if_pos h1] at h ⊢; rw [if_pos h1, ih false (by simpa using h)]
      · rw [if_neg h1] at h ⊢; rw [if_neg h1]
        by_cases h2 : (a == 35) = true
        · rw [if_pos h2] at h ⊢; rw [if_pos h2, ih true (by simpa using h)]
        · rw [if_neg h2, if_neg h2]
    · rw [gap_t] at h ⊢
      rw [gap_t]
      by_cases h1 : (a == 10) = true
      · rw [if_pos h1] at h ⊢; rw [if_pos h1, ih false (by simpa using h)]
      · rw [if_neg h1] at h ⊢; rw [if_neg h1, ih true (by simpa using h)]
/-- a byte that begins no gap -/
def NonGap (c : UInt8) : Prop := blankB c = false ∧ c ≠ 35
theorem NonGap.zero {c : UInt8} (h : NonGap c) (y : List UInt8) : gapLen false (c :: y) = 0 := by
  rw [gap_f, if_neg (by rw [h.1]; decide), if_neg (by simpa using h.2)]
theorem NonGap.ne {c : UInt8} (h : NonGap c) : c ≠ 10 := by rintro rfl; exact absurd h.1 (by decide)
theorem gap_swap {c c' : UInt8} (hc : NonGap c) (hc' : NonGap c') (y y' : List UInt8) : ∀ (b : Bool) (x : List UInt8), gapLen b (x ++ c :: y) = x.length → gapLen b (x ++ c' :: y') = x.length := by
  intro b x
  induction x generalizing b with
  | nil =>
    intro h
    cases b
    · exact hc'.zero y'
    · rw [List.nil_append, gap_t, if_neg (by simpa using hc.ne)] at h
      simp at h
  | cons a x ih =>
    intro h
    rw [List.cons_append] at h ⊢
    cases b
    · rw [gap_f] at h ⊢
      by_cases h1 : blankB a = true
      · rw [if_pos h1] at h ⊢; rw [ih false (by simpa using h)]; simp
      · rw [if_neg h1] at h ⊢
        by_cases h2 : (a == 35) = true
        · rw [if_pos h2] at h ⊢; rw [ih true (by simpa using h)]; simp
        · rw [if_neg h2] at h; simp at h
    · rw [gap_t] at h ⊢
      by_cases h1 : (a == 10) = true
      · rw [if_pos h1] at h ⊢; rw [ih false (by simpa using h)]; simp
      · rw [if_neg h1] at h ⊢; rw [ih true (by simpa using h)]; simp
theorem runLen_pre (p : UInt8 → Bool) (y : List UInt8) : ∀ x : List UInt8, runLen p x < x.length → runLen p (x ++ y) = runLen p x := by
  intro x
  induction x with
  | nil => intro h; simp at h
  | cons a x ih =>
    intro h
    rw [List.cons_append]
    unfold runLen at h ⊢
    by_cases ha : p a = true
    · rw [if_pos ha] at h ⊢; rw [if_pos ha, ih (by simpa using h)]
    · rw [if_neg ha, if_neg ha]
theorem tok_pre (y : List UInt8) (x : List UInt8) (h : (tokAt x).1 ≠ 0) (hl : (tokAt x).2.1 < x.length) : tokAt (x ++ y) = tokAt x := by
  cases x with
  | nil => simp at hl
  | cons c r =>
    have e : tokAt (c :: r ++ y) = tokAt (c :: (r ++ y)) := rfl
    rw [e]
    unfold tokAt at h hl ⊢
    by_cases hc : letterB c = true
    · simp only [hc, if_true] at h hl ⊢
      by_cases h2 : 24 < runLen wordB (c :: r)
      · rw [if_pos h2] at h; exact absurd rfl h
      · rw [if_neg h2] at hl ⊢
        simp only at hl
        have := runLen_pre wordB y (c :: r) hl
        rw [List.cons_append] at this
        rw [this, if_neg h2]
    · have hc' : letterB c = false := by simpa using hc
      simp only [hc', Bool.false_eq_true, if_false] at h hl ⊢
      by_cases hd : digitB c = true
      · simp only [hd, if_true] at h hl ⊢
        by_cases h2 : 10 < runLen digitB (c :: r) ∨ 1000000000 < numVal 0 ((c :: r).take (runLen digitB (c :: r)))
        · rw [if_pos h2] at h; exact absurd rfl h
        · rw [if_neg h2] at hl ⊢
          simp only at hl
          have e1 := runLen_pre digitB y (c :: r) hl
          rw [List.cons_append] at e1
          have e2 : (c :: (r ++ y)).take (runLen digitB (c :: r)) = (c :: r).take (runLen digitB (c :: r)) := by
            rw [← List.cons_append, List.take_append_of_le_length (by omega)]
          rw [e1, e2, if_neg h2]
      · have hd' : digitB c = false := by simpa using hd
        simp only [hd', Bool.false_eq_true, if_false] at h hl ⊢
        by_cases h0 : symLen (c :: r) = 0
        · rw [if_pos h0] at h; exact absurd rfl h
        · rw [if_neg h0] at hl ⊢
          simp only at hl
          have h2 : 2 ≤ (c :: r).length := by omega
          have e1 : symLen (c :: (r ++ y)) = symLen (c :: r) := by
            rw [symLen_cases, symLen_cases]
            have t2 : (c :: (r ++ y)).take 2 = (c :: r).take 2 := by rw [← List.cons_append, List.take_append_of_le_length (by omega)]
            have t1 : (c :: (r ++ y)).take 1 = (c :: r).take 1 := by rw [← List.cons_append, List.take_append_of_le_length (by omega)]
            have l2 : 2 ≤ (c :: (r ++ y)).length := by simp at h2 ⊢; omega
            rw [t2, t1]
            simp only [h2, l2, true_and]
            have l1 : 1 ≤ (c :: (r ++ y)).length := by simp
            have l1' : 1 ≤ (c :: r).length := by simp
            simp only [l1, l1', true_and]
          rw [e1, if_neg h0]
theorem chain_unshift (q s : List UInt8) : ∀ (ys : List Tk) (k : Nat), Chain (q ++ s) (q.length + k) ys → ∃ zs, Chain s k zs ∧ zs.length = ys.length := by
  intro ys
  induction ys with
  | nil => intro k h; have : (q ++ s).length ≤ q.length + k := h; rw [List.length_append] at this; exact ⟨[], by show s.length ≤ k; omega, rfl⟩
  | cons t r ih =>
    intro k h
    obtain ⟨h1, h2, h3, h4, h5, h6, h7, h8⟩ := h
    have ed : (q ++ s).drop (q.length + k) = s.drop k := by rw [List.drop_append]; simp
    have ep : posEnd (q ++ s) (q.length + k + t.text.length) = q.length + posEnd s (k + t.text.length) := by
      unfold posEnd
      have ed' : (q ++ s).drop (q.length + k + t.text.length) = s.drop (k + t.text.length) := by
        rw [show q.length + k + t.text.length = q.length + (k + t.text.length) from by omega, List.drop_append]; simp
      rw [ed']; omega
    rw [ep] at h8
    obtain ⟨zs, z1, z2⟩ := ih _ h8
    rw [List.length_append] at h1 h7
    refine ⟨{ t with off := k } :: zs, ⟨by omega, rfl, h3, by rw [← ed]; exact h4, by rw [← ed]; exact h5, h6, by show k + t.text.length ≤ _; omega, z1⟩, by simp [z2]⟩
theorem word_nongap {c : UInt8} (h : wordB c = true) : NonGap c := by
  have : ∀ n : Fin 256, wordB (UInt8.ofNat n) = true → blankB (UInt8.ofNat n) = false ∧ UInt8.ofNat n ≠ 35 := by decide +kernel
  have e : UInt8.ofNat c.toNat = c := by simp
  have := this ⟨c.toNat, c.toNat_lt⟩
  simp only [e] at this
  exact this h
theorem run_first (p : UInt8 → Bool) (l : List UInt8) (h : 0 < runLen p l) : ∃ c r, l = c :: r ∧ p c = true := by
  cases l with
  | nil => simp [runLen] at h
  | cons c r =>
    unfold runLen at h
    by_cases hc : p c = true
    · exact ⟨c, r, rfl, hc⟩
    · rw [if_neg hc] at h; omega
theorem runLen_all (p : UInt8 → Bool) : ∀ x : List UInt8, (∀ c ∈ x, p c = true) → runLen p x = x.length := by
  intro x
  induction x with
  | nil => intro _; rfl
  | cons a x ih => intro h; unfold runLen; rw [if_pos (h a (by simp)), ih (fun c hc => h c (by simp [hc]))]; rfl

/-- a word in place of the second of two words -/
theorem lex_word {l : List UInt8} {t0 t1 : Tk} {r : List Tk} {a : Nat} (h : lexL l = (t0 :: t1 :: r, 0, a)) (h0 : t0.kind = 1) (h1 : t1.kind = 1) (key : List UInt8) (c0 : UInt8) (kr : List UInt8) (hk : key = c0 :: kr) (hc0 : letterB c0 = true)
    (hkw : ∀ c ∈ key, wordB c = true) (hkl : key.length ≤ 24) (hl : l.length ≤ 1000) :
    ∃ r', lexL (l.take t1.off ++ key ++ l.drop (t1.off + t1.text.length)) = (t0 :: ⟨1, key, 0, t1.off⟩ :: r', 0, 0) := by
  obtain ⟨_, _, hn, hch⟩ := lex_chain l (by rw [h])
  rw [h] at hn hch
  simp only at hn hch
  obtain ⟨g1, g2, g3, g4, g5, g6, g7, f1, f2, f3, f4, f5, f6, f7, f8⟩ := hch
  have hk0 : t0.text.length = runLen wordB (l.drop (posEnd l 0)) := by
    rcases tok_kind _ _ _ _ g4 g3 with ⟨_, e⟩ | ⟨e, _⟩ | ⟨e, _⟩
    · exact e
    · omega
    · omega
  have hk1 : t1.text.length = runLen wordB (l.drop (posEnd l (posEnd l 0 + t0.text.length))) := by
    rcases tok_kind _ _ _ _ f4 f3 with ⟨_, e⟩ | ⟨e, _⟩ | ⟨e, _⟩
    · exact e
    · omega
    · omega
  have h1n : t1.num = 0 ∨ True := .inr trivial
  -- names
  obtain ⟨K, hK⟩ : ∃ K, K = posEnd l 0 := ⟨_, rfl⟩
  obtain ⟨E, hE⟩ : ∃ E, E = K + t0.text.length := ⟨_, rfl⟩
  obtain ⟨A, hA⟩ : ∃ A, A = posEnd l E := ⟨_, rfl⟩
  obtain ⟨p, hp⟩ : ∃ p, p = l.take A := ⟨_, rfl⟩
  obtain ⟨s, hs⟩ : ∃ s, s = l.drop (A + t1.text.length) := ⟨_, rfl⟩
  rw [← hK] at g1 g2 g4 g5 g7 hk0 f1 f2 f4 f5 f7 hk1 f8
  rw [← hE] at g7 f1 f2 f4 f5 f7 hk1 f8
  rw [← hA] at f1 f2 f4 f5 f7 hk1 f8
  rw [f2, ← hp, ← hs]
  have hEA := posEnd_ge l E
  rw [← hA] at hEA
  obtain ⟨c1, r1, hc1, hw1⟩ := run_first wordB (l.drop A) (by omega)
  have hlt : E < A := by
    rcases Nat.lt_or_ge E A with h | h
    · exact h
    · exfalso
      have hEE : A = E := by omega
      have := run_next wordB (l.drop K) c1 (by
        rw [← hk0, List.getElem?_drop, ← hE, ← hEE]
        have : (l.drop A)[0]? = some c1 := by rw [hc1]; rfl
        rwa [List.getElem?_drop, Nat.add_zero] at this)
      rw [hw1] at this; cases this
  have hpl : p.length = A := by rw [hp, List.length_take]; omega
  have hlp : l = p ++ c1 :: r1 := by rw [← hc1, hp, List.take_append_drop]
  have hng := word_nongap hw1
  have hng' : NonGap c0 := word_nongap (hkw c0 (by rw [hk]; simp))
  obtain ⟨z, hz⟩ : ∃ z, z = kr ++ s := ⟨_, rfl⟩
  have hL : p ++ key ++ s = p ++ c0 :: z := by rw [hk, hz]; simp
  rw [hL]
  have hgk : gapLen false p = K := by
    have e1 := gapLen_take false l A
    rw [← hp] at e1
    have e2 : K = gapLen false l := by rw [hK]; unfold posEnd; simp
    omega
  have eK : posEnd (p ++ c0 :: z) 0 = K := by
    unfold posEnd
    rw [List.drop_zero, gap_pre _ _ _ (by omega), hgk]; omega
  have dK : (p ++ c0 :: z).drop K = p.drop K ++ c0 :: z := List.drop_append_of_le_length (by omega)
  have dpK : p.drop K = (l.drop K).take (A - K) := by rw [hp, List.drop_take]
  have tpK : tokAt (p.drop K) = (t0.kind, t0.text.length, t0.num) := by
    rw [dpK, tok_take _ _ (by rw [g4]; exact g3) (by rw [g4]; simp only; omega)]; exact g4
  have tK : tokAt ((p ++ c0 :: z).drop K) = (t0.kind, t0.text.length, t0.num) := by
    rw [dK, tok_pre _ _ (by rw [tpK]; exact g3) (by rw [tpK, List.length_drop]; simp only; omega)]; exact tpK
  have eE : posEnd (p ++ c0 :: z) E = A := by
    unfold posEnd
    rw [List.drop_append_of_le_length (by omega)]
    have h2 : gapLen false (p.drop E ++ c1 :: r1) = (p.drop E).length := by
      rw [← List.drop_append_of_le_length (by omega : E ≤ p.length), ← hlp, List.length_drop, hpl]
      have : A = E + gapLen false (l.drop E) := hA
      omega
    rw [gap_swap hng hng' r1 z false _ h2, List.length_drop]; omega
  have dA : (p ++ c0 :: z).drop A = key ++ s := by
    rw [List.drop_append_of_le_length (by omega), List.drop_of_length_le (by omega), List.nil_append, hk, hz]; rfl
  have hrl : runLen wordB (key ++ s) = key.length := by
    cases hs2 : s with
    | nil => rw [List.append_nil]; exact runLen_all _ _ hkw
    | cons d s2 =>
      have hd : wordB d = false := run_next wordB (l.drop A) d (by
        rw [← hk1, List.getElem?_drop]
        have : (l.drop (A + t1.text.length))[0]? = some d := by rw [← hs, hs2]; rfl
        rwa [List.getElem?_drop, Nat.add_zero] at this)
      rw [runLen_app _ _ _ hd]; exact runLen_all _ _ hkw
  have tA : tokAt (key ++ s) = (1, key.length, 0) := by
    have e : key ++ s = c0 :: z := by rw [hk, hz]; rfl
    rw [e] at hrl ⊢
    unfold tokAt
    simp only [hc0, if_true, hrl]
    rw [if_neg (by omega)]
  have hkpos : 0 < key.length := by rw [hk]; simp
  -- what follows
  have hq : l = l.take (A + t1.text.length) ++ s := by rw [hs, List.take_append_drop]
  obtain ⟨q, hqd⟩ : ∃ q, q = l.take (A + t1.text.length) := ⟨_, rfl⟩
  have hql : q.length = A + t1.text.length := by rw [hqd, List.length_take]; omega
  rw [← hqd] at hq
  have f8' : Chain (q ++ s) (q.length + posEnd s 0) r := by
    have e : posEnd l (A + t1.text.length) = q.length + posEnd s 0 := by
      unfold posEnd; rw [← hs, List.drop_zero, hql]; omega
    rw [← hq, ← e]; exact f8
  obtain ⟨zs, z1, z2⟩ := chain_unshift q s r _ f8'
  have z3 := chain_shift (p ++ key) s zs _ z1
  have eP : p ++ key ++ s = p ++ c0 :: z := hL
  rw [eP] at z3
  have hPl : (p ++ key).length = A + key.length := by rw [List.length_append, hpl]
  have eA : posEnd (p ++ c0 :: z) (A + key.length) = (p ++ key).length + posEnd s 0 := by
    unfold posEnd
    have : (p ++ c0 :: z).drop (A + key.length) = s := by
      rw [← hL, ← hPl]
      exact List.drop_left
    rw [this, hPl, List.drop_zero]; omega
  have hlen : (p ++ c0 :: z).length ≤ 20000 := by
    rw [← hL, List.length_append, List.length_append, hpl, hs, List.length_drop]; omega
  have hAl : A + key.length ≤ (p ++ c0 :: z).length := by rw [← hL, List.length_append, List.length_append, hpl]; omega
  refine ⟨zs.map (shift (p ++ key).length), (chain_lex _ _ hlen ?_).1 (by simp [z2] at hn ⊢; omega)⟩
  rw [eK]
  refine ⟨by omega, g2, g3, tK, ?_, g6, by omega, ?_⟩
  · rw [dK, List.take_append_of_le_length (by rw [List.length_drop]; omega), dpK, List.take_take, Nat.min_eq_left (by omega)]; exact g5
  · rw [← hE, eE]
    refine ⟨by omega, rfl, Nat.one_ne_zero, by rw [dA]; exact tA, by rw [dA]; simp, hkpos, hAl, ?_⟩
    rw [eA]; exact z3
/-- a further semicolon in a line of its own -/
theorem lex_semi {l : List UInt8} {ts : List Tk} {a : Nat} (h : lexL l = (ts, 0, a)) (hl : l.length ≤ 1000) : lexL (l ++ [10, 59]) = (ts ++ [⟨3, [59], 0, l.length + 1⟩], 0, 0) := by
  obtain ⟨_, _, hn, hch⟩ := lex_chain l (by rw [h])
  rw [h] at hn hch
  simp only at hn hch
  have hb : Chain [59] (posEnd [59] 0) [⟨3, [59], 0, 0⟩] := by
    refine ⟨by decide, by decide, by decide, by decide, by decide, by decide, by decide, by show ([59] : List UInt8).length ≤ _; decide⟩
  have hc := lex_concat l [59] ts _ hch hb
  have hcount : ts.length ≤ 1000 := by
    have : ∀ (ts : List Tk) (k : Nat), Chain l k ts → ts.length + k ≤ l.length ∨ ts = [] := by
      intro ts
      induction ts with
      | nil => intro k _; exact .inr rfl
      | cons t r ih =>
        intro k h
        obtain ⟨h1, _, _, _, _, h6, h7, h8⟩ := h
        have hg := posEnd_ge l (k + t.text.length)
        rcases ih _ h8 with h | h
        · left; simp; omega
        · subst h; left; simp; omega
    rcases this ts _ hch with h | h
    · omega
    · subst h; simp
  have := (chain_lex (l ++ 10 :: [59]) _ (by simp; omega) hc).1 (by simp; omega)
  simpa [shift] using this
end Go.Proofs.YtefihbhcdocgfaaGreatDoor.Lx
