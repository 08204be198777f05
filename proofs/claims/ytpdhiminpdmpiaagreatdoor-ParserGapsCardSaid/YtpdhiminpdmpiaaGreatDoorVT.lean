/-
 The tokens of a text in which the second token is replaced by a word; a text with a further semicolon.
-/
import Derived.Test.YtpdhiminpdmpiaaGreatDoorVA
set_option linter.unusedVariables false
set_option linter.unusedSimpArgs false
set_option linter.unusedSectionVars false
set_option linter.unusedVariables false
set_option linter.unusedSimpArgs false
set_option linter.unusedSectionVars false
namespace Go.Proofs.YtpdhiminpdmpiaaGreatDoor.Lx
theorem gap_f (a : UInt8) (z : List UInt8) : gapLen false (a :: z) = if blankB a = true then gapLen false z + 1 else if (a == 35) = true then gapLen true z + 1 else 0 := by rw [gapLen]
theorem gap_t (a : UInt8) (z : List UInt8) : gapLen true (a :: z) = if (a == 10) = true then gapLen false z + 1 else gapLen true z + 1 := by rw [gapLen]
theorem gap_pre (y : List UInt8) : ∀ (b : Bool) (x : List UInt8), gapLen b x < x.length → gapLen b (x ++ y) = gapLen b x := by
 intro b x
 induction x generalizing b with
 | nil => intro h; simp at h
 | cons a x ih =>
  intro h
  rw [List.cons_append]
  cases b
  ·rw [gap_f] at h ⊢
   rw [gap_f]
   by_cases h1 : blankB a = true
   ·rw [if_pos h1] at h ⊢; rw [if_pos h1, ih false (by simpa using h)]
   ·rw [if_neg h1] at h ⊢; rw [if_neg h1]
    by_cases h2 : (a == 35) = true
    ·rw [if_pos h2] at h ⊢; rw [if_pos h2, ih true (by simpa using h)]
    ·rw [if_neg h2, if_neg h2]
  ·rw [gap_t] at h ⊢
   rw [gap_t]
   by_cases h1 : (a == 10) = true
   ·rw [if_pos h1] at h ⊢; rw [if_pos h1, ih false (by simpa using h)]
   ·rw [if_neg h1] at h ⊢; rw [if_neg h1, ih true (by simpa using h)]
/-- a byte that begins no gap -/
def NonGap (c : UInt8) : Prop := blankB c = false ∧ c ≠ 35
theorem NonGap.zero {c : UInt8} (h : NonGap c) (y : List UInt8) : gapLen false (c :: y) = 0 := by
 rw [gap_f, if_neg (by rw [h.1]; decide), if_neg (by simpa using h.2)]
theorem NonGap.ne {c : UInt8} (h : NonGap c) : c ≠ 10 := by rintro rfl; exact absurd h.1 (by decide)
theorem gap_swap {c c' : UInt8} (hc : NonGap c) (hc' : NonGap c') (y y' : List UInt8) : ∀ (b : Bool) (x : List UInt8), gapLen b (x ++ c :: y) = x.length → gapLen b (x ++ c' :: y') = x.length := by
 intro b x
 induction x generalizing b with
 | nil =>
  intro h
  cases b
  ·exact hc'.zero y'
  ·rw [List.nil_append, gap_t, if_neg (by simpa using hc.ne)] at h
   simp at h
 | cons a x ih =>
  intro h
  rw [List.cons_append] at h ⊢
  cases b
  ·rw [gap_f] at h ⊢
   by_cases h1 : blankB a = true
   ·rw [if_pos h1] at h ⊢; rw [ih false (by simpa using h)]; simp
   ·rw [if_neg h1] at h ⊢
    by_cases h2 : (a == 35) = true
    ·rw [if_pos h2] at h ⊢; rw [ih true (by simpa using h)]; simp
    ·rw [if_neg h2] at h; simp at h
  ·rw [gap_t] at h ⊢
   by_cases h1 : (a == 10) = true
   ·rw [if_pos h1] at h ⊢; rw [ih false (by simpa using h)]; simp
   ·rw [if_neg h1] at h ⊢; rw [ih true (by simpa using h)]; simp
theorem runLen_pre (p : UInt8 → Bool) (y : List UInt8) : ∀ x : List UInt8, runLen p x < x.length → runLen p (x ++ y) = runLen p x := by
 intro x
 induction x with
 | nil => intro h; simp at h
 | cons a x ih =>
  intro h
  rw [List.cons_append]
  unfold runLen at h ⊢
  by_cases ha : p a = true
  ·rw [if_pos ha] at h ⊢; rw [if_pos ha, ih (by simpa using h)]
  ·rw [if_neg ha, if_neg ha]
theorem tok_pre (y : List UInt8) (x : List UInt8) (h : (tokAt x).1 ≠ 0) (hl : (tokAt x).2.1 < x.length) : tokAt (x ++ y) = tokAt x := by
 cases x with
 | nil => simp at hl
 | cons c r =>
  have e : tokAt (c :: r ++ y) = tokAt (c :: (r ++ y)) := rfl
  rw [e]
  unfold tokAt at h hl ⊢
  by_cases hc : letterB c = true
  ·simp only [hc, if_true] at h hl ⊢
   by_cases h2 : 24 < runLen wordB (c :: r)
   ·rw [if_pos h2] at h; exact absurd rfl h
   ·rw [if_neg h2] at hl ⊢
    simp only at hl
    have := runLen_pre wordB y (c :: r) hl
    rw [List.cons_append] at this
    rw [this, if_neg h2]
  ·have hc' : letterB c = false := by simpa using hc
   simp only [hc', Bool.false_eq_true, if_false] at h hl ⊢
   by_cases hd : digitB c = true
   ·simp only [hd, if_true] at h hl ⊢
    by_cases h2 : 10 < runLen digitB (c :: r) ∨ 1000000000 < numVal 0 ((c :: r).take (runLen digitB (c :: r)))
    ·rw [if_pos h2] at h; exact absurd rfl h
    ·rw [if_neg h2] at hl ⊢
     simp only at hl
     have e1 := runLen_pre digitB y (c :: r) hl
     rw [List.cons_append] at e1
     have e2 : (c :: (r ++ y)).take (runLen digitB (c :: r)) = (c :: r).take (runLen digitB (c :: r)) := by
      rw [← List.cons_append, List.take_append_of_le_length (by omega)]
     rw [e1, e2, if_neg h2]
   ·have hd' : digitB c = false := by simpa using hd
    simp only [hd', Bool.false_eq_true, if_false] at h hl ⊢
    by_cases h0 : symLen (c :: r) = 0
    ·rw [if_pos h0] at h; exact absurd rfl h
    ·rw [if_neg h0] at hl ⊢
     simp only at hl
     have h2 : 2 ≤ (c :: r).length := by omega
     have e1 : symLen (c :: (r ++ y)) = symLen (c :: r) := by
      rw [symLen_cases, symLen_cases]
      have t2 : (c :: (r ++ y)).take 2 = (c :: r).take 2 := by rw [← List.cons_append, List.take_append_of_le_length (by omega)]
      have t1 : (c :: (r ++ y)).take 1 = (c :: r).take 1 := by rw [← List.cons_append, List.take_append_of_le_length (by omega)]
      have l2 : 2 ≤ (c :: (r ++ y)).length := by simp at h2 ⊢; omega
      rw [t2, t1]
      simp only [h2, l2, true_and]
      have l1 : 1 ≤ (c :: (r ++ y)).length := by simp
      have l1' : 1 ≤ (c :: r).length := by simp
      simp only [l1, l1', true_and]
     rw [e1, if_neg h0]
theorem chain_unshift (q s : List UInt8) : ∀ (ys : List Tk) (k : Nat), Chain (q ++ s) (q.length + k) ys → ∃ zs, Chain s k zs ∧ zs.length = ys.length := by
 intro ys
 induction ys with
 | nil => intro k h; have : (q ++ s).length ≤ q.length + k := h; rw [List.length_append] at this; exact ⟨[], by show s.length ≤ k; omega, rfl⟩
 | cons t r ih =>
  intro k h
  obtain ⟨h1, h2, h3, h4, h5, h6, h7, h8⟩ := h
  have ed : (q ++ s).drop (q.length + k) = s.drop k := by rw [List.drop_append]; simp
  have ep : posEnd (q ++ s) (q.length + k + t.text.length) = q.length + posEnd s (k + t.text.length) := by
   unfold posEnd
   have ed' : (q ++ s).drop (q.length + k + t.text.length) = s.drop (k + t.text.length) := by
    rw [show q.length + k + t.text.length = q.length + (k + t.text.length) from by omega, List.drop_append]; simp
   rw [ed']; omega
  rw [ep] at h8
  obtain ⟨zs, z1, z2⟩ := ih _ h8
  rw [List.length_append] at h1 h7
  refine ⟨{ t with off := k } :: zs, ⟨by omega, rfl, h3, by rw [← ed]; exact h4, by rw [← ed]; exact h5, h6, by show k + t.text.length ≤ _; omega, z1⟩, by simp [z2]⟩
theorem word_nongap {c : UInt8} (h : wordB c = true) : NonGap c := by
 have : ∀ n : Fin 256, wordB (UInt8.ofNat n) = true → blankB (UInt8.ofNat n) = false ∧ UInt8.ofNat n ≠ 35 := by decide +kernel
 have e : UInt8.ofNat c.toNat = c := by simp
 have := this ⟨c.toNat, c.toNat_lt⟩
 simp only [e] at this
 exact this h
theorem run_first (p : UInt8 → Bool) (l : List UInt8) (h : 0 < runLen p l) : ∃ c r, l = c :: r ∧ p c = true := by
 cases l with
 | nil => simp [runLen] at h
 | cons c r =>
  unfold runLen at h
  by_cases hc : p c = true
  ·exact ⟨c, r, rfl, hc⟩
  ·rw [if_neg hc] at h; omega
theorem runLen_all (p : UInt8 → Bool) : ∀ x : List UInt8, (∀ c ∈ x, p c = true) → runLen p x = x.length := by
 intro x
 induction x with
 | nil => intro _; rfl
 | cons a x ih => intro h; unfold runLen; rw [if_pos (h a (by simp)), ih (fun c hc => h c (by simp [hc]))]; rfl
/-- a word in place of the second of two words -/
theorem lex_word {l : List UInt8} {t0 t1 : Tk} {r : List Tk} {a : Nat} (h : lexL l = (t0 :: t1 :: r, 0, a)) (h0 : t0.kind = 1) (h1 : t1.kind = 1) (key : List UInt8) (c0 : UInt8) (kr : List UInt8) (hk : key = c0 :: kr) (hc0 : letterB c0 = true)
  (hkw : ∀ c ∈ key, wordB c = true) (hkl : key.length ≤ 24) (hl : l.length ≤ 1000) :
  ∃ r', lexL (l.take t1.off ++ key ++ l.drop (t1.off + t1.text.length)) = (t0 :: ⟨1, key, 0, t1.off⟩ :: r', 0, 0) := by
 obtain ⟨_, _, hn, hch⟩ := lex_chain l (by rw [h])
 rw [h] at hn hch
 simp only at hn hch
 obtain ⟨g1, g2, g3, g4, g5, g6, g7, f1, f2, f3, f4, f5, f6, f7, f8⟩ := hch
 have hk0 : t0.text.length = runLen wordB (l.drop (posEnd l 0)) := by
  rcases tok_kind _ _ _ _ g4 g3 with ⟨_, e⟩ | ⟨e, _⟩ | ⟨e, _⟩
  ·exact e
  ·omega
  ·omega
 have hk1 : t1.text.length = runLen wordB (l.drop (posEnd l (posEnd l 0 + t0.text.length))) := by
  rcases tok_kind _ _ _ _ f4 f3 with ⟨_, e⟩ | ⟨e, _⟩ | ⟨e, _⟩
  ·exact e
  ·omega
  ·omega
 have h1n : t1.num = 0 ∨ True := .inr trivial
 -- names
 obtain ⟨K, hK⟩ : ∃ K, K = posEnd l 0 := ⟨_, rfl⟩
 obtain ⟨E, hE⟩ : ∃ E, E = K + t0.text.length := ⟨_, rfl⟩
 obtain ⟨A, hA⟩ : ∃ A, A = posEnd l E := ⟨_, rfl⟩
 obtain ⟨p, hp⟩ : ∃ p, p = l.take A := ⟨_, rfl⟩
 obtain ⟨s, hs⟩ : ∃ s, s = l.drop (A + t1.text.length) := ⟨_, rfl⟩
 rw [← hK] at g1 g2 g4 g5 g7 hk0 f1 f2 f4 f5 f7 hk1 f8
 rw [← hE] at g7 f1 f2 f4 f5 f7 hk1 f8
 rw [← hA] at f1 f2 f4 f5 f7 hk1 f8
 rw [f2, ← hp, ← hs]
 have hEA := posEnd_ge l E
 rw [← hA] at hEA
 obtain ⟨c1, r1, hc1, hw1⟩ := run_first wordB (l.drop A) (by omega)
 have hlt : E < A := by
  rcases Nat.lt_or_ge E A with h | h
  ·exact h
  ·exfalso
   have hEE : A = E := by omega
   have := run_next wordB (l.drop K) c1 (by
    rw [← hk0, List.getElem?_drop, ← hE, ← hEE]
    have : (l.drop A)[0]? = some c1 := by rw [hc1]; rfl
    rwa [List.getElem?_drop, Nat.add_zero] at this)
   rw [hw1] at this; cases this
 have hpl : p.length = A := by rw [hp, List.length_take]; omega
 have hlp : l = p ++ c1 :: r1 := by rw [← hc1, hp, List.take_append_drop]
 have hng := word_nongap hw1
 have hng' : NonGap c0 := word_nongap (hkw c0 (by rw [hk]; simp))
 obtain ⟨z, hz⟩ : ∃ z, z = kr ++ s := ⟨_, rfl⟩
 have hL : p ++ key ++ s = p ++ c0 :: z := by rw [hk, hz]; simp
 rw [hL]
 have hgk : gapLen false p = K := by
  have e1 := gapLen_take false l A
  rw [← hp] at e1
  have e2 : K = gapLen false l := by rw [hK]; unfold posEnd; simp
  omega
 have eK : posEnd (p ++ c0 :: z) 0 = K := by
  unfold posEnd
  rw [List.drop_zero, gap_pre _ _ _ (by omega), hgk]; omega
 have dK : (p ++ c0 :: z).drop K = p.drop K ++ c0 :: z := List.drop_append_of_le_length (by omega)
 have dpK : p.drop K = (l.drop K).take (A - K) := by rw [hp, List.drop_take]
 have tpK : tokAt (p.drop K) = (t0.kind, t0.text.length, t0.num) := by
  rw [dpK, tok_take _ _ (by rw [g4]; exact g3) (by rw [g4]; simp only; omega)]; exact g4
 have tK : tokAt ((p ++ c0 :: z).drop K) = (t0.kind, t0.text.length, t0.num) := by
  rw [dK, tok_pre _ _ (by rw [tpK]; exact g3) (by rw [tpK, List.length_drop]; simp only; omega)]; exact tpK
 have eE : posEnd (p ++ c0 :: z) E = A := by
  unfold posEnd
  rw [List.drop_append_of_le_length (by omega)]
  have h2 : gapLen false (p.drop E ++ c1 :: r1) = (p.drop E).length := by
   rw [← List.drop_append_of_le_length (by omega : E ≤ p.length), ← hlp, List.length_drop, hpl]
   have : A = E + gapLen false (l.drop E) := hA
   omega
  rw [gap_swap hng hng' r1 z false _ h2, List.length_drop]; omega
 have dA : (p ++ c0 :: z).drop A = key ++ s := by
  rw [List.drop_append_of_le_length (by omega), List.drop_of_length_le (by omega), List.nil_append, hk, hz]; rfl
 have hrl : runLen wordB (key ++ s) = key.length := by
  cases hs2 : s with
  | nil => rw [List.append_nil]; exact runLen_all _ _ hkw
  | cons d s2 =>
   have hd : wordB d = false := run_next wordB (l.drop A) d (by
    rw [← hk1, List.getElem?_drop]
    have : (l.drop (A + t1.text.length))[0]? = some d := by rw [← hs, hs2]; rfl
    rwa [List.getElem?_drop, Nat.add_zero] at this)
   rw [runLen_app _ _ _ hd]; exact runLen_all _ _ hkw
 have tA : tokAt (key ++ s) = (1, key.length, 0) := by
  have e : key ++ s = c0 :: z := by rw [hk, hz]; rfl
  rw [e] at hrl ⊢
  unfold tokAt
  simp only [hc0, if_true, hrl]
  rw [if_neg (by omega)]
 have hkpos : 0 < key.length := by rw [hk]; simp
 -- what follows
 have hq : l = l.take (A + t1.text.length) ++ s := by rw [hs, List.take_append_drop]
 obtain ⟨q, hqd⟩ : ∃ q, q = l.take (A + t1.text.length) := ⟨_, rfl⟩
 have hql : q.length = A + t1.text.length := by rw [hqd, List.length_take]; omega
 rw [← hqd] at hq
 have f8' : Chain (q ++ s) (q.length + posEnd s 0) r := by
  have e : posEnd l (A + t1.text.length) = q.length + posEnd s 0 := by
   unfold posEnd; rw [← hs, List.drop_zero, hql]; omega
  rw [← hq, ← e]; exact f8
 obtain ⟨zs, z1, z2⟩ := chain_unshift q s r _ f8'
 have z3 := chain_shift (p ++ key) s zs _ z1
 have eP : p ++ key ++ s = p ++ c0 :: z := hL
 rw [eP] at z3
 have hPl : (p ++ key).length = A + key.length := by rw [List.length_append, hpl]
 have eA : posEnd (p ++ c0 :: z) (A + key.length) = (p ++ key).length + posEnd s 0 := by
  unfold posEnd
  have : (p ++ c0 :: z).drop (A + key.length) = s := by
   rw [← hL, ← hPl]
   exact List.drop_left
  rw [this, hPl, List.drop_zero]; omega
 have hlen : (p ++ c0 :: z).length ≤ 20000 := by
  rw [← hL, List.length_append, List.length_append, hpl, hs, List.length_drop]; omega
 have hAl : A + key.length ≤ (p ++ c0 :: z).length := by rw [← hL, List.length_append, List.length_append, hpl]; omega
 refine ⟨zs.map (shift (p ++ key).length), (chain_lex _ _ hlen ?_).1 (by simp [z2] at hn ⊢; omega)⟩
 rw [eK]
 refine ⟨by omega, g2, g3, tK, ?_, g6, by omega, ?_⟩
 ·rw [dK, List.take_append_of_le_length (by rw [List.length_drop]; omega), dpK, List.take_take, Nat.min_eq_left (by omega)]; exact g5
 ·rw [← hE, eE]
  refine ⟨by omega, rfl, Nat.one_ne_zero, by rw [dA]; exact tA, by rw [dA]; simp, hkpos, hAl, ?_⟩
  rw [eA]; exact z3
/-- a further semicolon in a line of its own -/
theorem lex_semi {l : List UInt8} {ts : List Tk} {a : Nat} (h : lexL l = (ts, 0, a)) (hl : l.length ≤ 1000) : lexL (l ++ [10, 59]) = (ts ++ [⟨3, [59], 0, l.length + 1⟩], 0, 0) := by
 obtain ⟨_, _, hn, hch⟩ := lex_chain l (by rw [h])
 rw [h] at hn hch
 simp only at hn hch
 have hb : Chain [59] (posEnd [59] 0) [⟨3, [59], 0, 0⟩] := by
  refine ⟨by decide, by decide, by decide, by decide, by decide, by decide, by decide, by show ([59] : List UInt8).length ≤ _; decide⟩
 have hc := lex_concat l [59] ts _ hch hb
 have hcount : ts.length ≤ 1000 := by
  have : ∀ (ts : List Tk) (k : Nat), Chain l k ts → ts.length + k ≤ l.length ∨ ts = [] := by
   intro ts
   induction ts with
   | nil => intro k _; exact .inr rfl
   | cons t r ih =>
    intro k h
    obtain ⟨h1, _, _, _, _, h6, h7, h8⟩ := h
    have hg := posEnd_ge l (k + t.text.length)
    rcases ih _ h8 with h | h
    ·left; simp; omega
    ·subst h; left; simp; omega
  rcases this ts _ hch with h | h
  ·omega
  ·subst h; simp
 have := (chain_lex (l ++ 10 :: [59]) _ (by simp; omega) hc).1 (by simp; omega)
 simpa [shift] using this
end Go.Proofs.YtpdhiminpdmpiaaGreatDoor.Lx
/-
 The text behind a token by itself; two texts joined; texts of tokens laid anew with gaps before them.
-/
set_option linter.unusedVariables false
set_option linter.unusedSimpArgs false
set_option linter.unusedSectionVars false
namespace Go.Proofs.YtpdhiminpdmpiaaGreatDoor.Lx
theorem chain_unshift2 (q s : List UInt8) : ∀ (ys : List Tk) (k : Nat), Chain (q ++ s) (q.length + k) ys → ∃ zs, Chain s k zs ∧ ys = zs.map (shift q.length) := by
 intro ys
 induction ys with
 | nil => intro k h; have : (q ++ s).length ≤ q.length + k := h; rw [List.length_append] at this; exact ⟨[], by show s.length ≤ k; omega, rfl⟩
 | cons t r ih =>
  intro k h
  obtain ⟨h1, h2, h3, h4, h5, h6, h7, h8⟩ := h
  have ed : (q ++ s).drop (q.length + k) = s.drop k := by rw [List.drop_append]; simp
  have ep : posEnd (q ++ s) (q.length + k + t.text.length) = q.length + posEnd s (k + t.text.length) := by
   unfold posEnd
   have ed' : (q ++ s).drop (q.length + k + t.text.length) = s.drop (k + t.text.length) := by
    rw [show q.length + k + t.text.length = q.length + (k + t.text.length) from by omega, List.drop_append]; simp
   rw [ed']; omega
  rw [ep] at h8
  obtain ⟨zs, z1, z2⟩ := ih _ h8
  rw [List.length_append] at h1 h7
  refine ⟨{ t with off := k } :: zs, ⟨by omega, rfl, h3, by rw [← ed]; exact h4, by rw [← ed]; exact h5, h6, by show k + t.text.length ≤ _; omega, z1⟩, ?_⟩
  rw [List.map_cons, ← z2]
  congr 1
  cases t
  simp only [shift] at h2 ⊢
  congr 1
  omega
theorem chain_count (l : List UInt8) : ∀ (ts : List Tk) (k : Nat), Chain l k ts → ts.length + k ≤ l.length ∨ ts = [] := by
 intro ts
 induction ts with
 | nil => intro k _; exact .inr rfl
 | cons t r ih =>
  intro k h
  obtain ⟨h1, _, _, _, _, h6, h7, h8⟩ := h
  have hg := posEnd_ge l (k + t.text.length)
  rcases ih _ h8 with h | h
  ·left; simp; omega
  ·subst h; left; simp; omega
theorem lex_count {l : List UInt8} {ts : List Tk} {a : Nat} (h : lexL l = (ts, 0, a)) : ts.length ≤ l.length := by
 obtain ⟨_, _, _, hch⟩ := lex_chain l (by rw [h])
 rw [h] at hch
 rcases chain_count l ts _ hch with h | h
 ·omega
 ·subst h; simp
/-- what follows the third token, a semicolon -/
theorem lex_rest {l : List UInt8} {t0 t1 t2 : Tk} {r : List Tk} {a : Nat} (h : lexL l = (t0 :: t1 :: t2 :: r, 0, a)) (h2 : t2.text = [59]) :
  t2.off + 1 ≤ l.length ∧ ∃ zs, lexL (l.drop (t2.off + 1)) = (zs, 0, 0) ∧ r = zs.map (shift (t2.off + 1)) := by
 obtain ⟨k1, _, k3, hch⟩ := lex_chain l (by rw [h])
 rw [h] at k3 hch
 simp only at k3 hch
 obtain ⟨_, _, _, _, _, _, _, c1⟩ := hch
 obtain ⟨_, _, _, _, _, _, _, c2⟩ := c1
 obtain ⟨_, e, _, _, _, _, hle, c3⟩ := c2
 rw [← e, h2] at c3 hle
 have hle' : t2.off + 1 ≤ l.length := hle
 refine ⟨hle', ?_⟩
 have c3' : Chain l (posEnd l (t2.off + 1)) r := c3
 obtain ⟨p, hp⟩ : ∃ p, p = t2.off + 1 := ⟨_, rfl⟩
 rw [← hp] at c3' hle' ⊢
 have hq : (l.take p).length = p := by rw [List.length_take]; omega
 have e1 : posEnd l p = (l.take p).length + posEnd (l.drop p) 0 := by unfold posEnd; rw [hq, List.drop_zero]; omega
 rw [e1] at c3'
 have c4 : Chain (l.take p ++ l.drop p) ((l.take p).length + posEnd (l.drop p) 0) r := by rw [List.take_append_drop]; exact c3'
 obtain ⟨zs, z1, z2⟩ := chain_unshift2 _ _ _ _ c4
 rw [hq] at z2
 refine ⟨zs, (chain_lex _ _ (by rw [List.length_drop]; omega) z1).1 ?_, z2⟩
 have : r.length = zs.length := by rw [z2, List.length_map]
 simp at k3
 omega
/-- two texts with a line feed between them -/
theorem lex_join {a b : List UInt8} {xs ys : List Tk} {i j : Nat} (ha : lexL a = (xs, 0, i)) (hb : lexL b = (ys, 0, j)) (hn : xs.length + ys.length ≤ 6000) (hl : a.length + 1 + b.length ≤ 20000) :
  lexL (a ++ 10 :: b) = (xs ++ ys.map (shift (a.length + 1)), 0, 0) := by
 obtain ⟨_, _, _, h1⟩ := lex_chain a (by rw [ha])
 obtain ⟨_, _, _, h2⟩ := lex_chain b (by rw [hb])
 rw [ha] at h1
 rw [hb] at h2
 exact (chain_lex _ _ (by simp; omega) (lex_concat a b xs ys h1 h2)).1 (by simp; omega)
/-- a byte that ends every token -/
def EndsG (c : UInt8) : Prop := c = 32 ∨ c = 10 ∨ c = 9 ∨ c = 35
theorem endsG_word (c : UInt8) (h : EndsG c) : wordB c = false ∧ digitB c = false := by rcases h with rfl | rfl | rfl | rfl <;> decide
theorem endsG_sym (c : UInt8) (h : EndsG c) (x : UInt8) : isSym [x, c] = false := by
 have h1 : ∀ y ∈ syms, (32 : UInt8) ∉ y ∧ (10 : UInt8) ∉ y ∧ (9 : UInt8) ∉ y ∧ (35 : UInt8) ∉ y := by decide
 cases hs : isSym [x, c] with
 | false => rfl
 | true =>
  exfalso
  have h2 := h1 [x, c] (by simpa [isSym] using hs)
  rcases h with rfl | rfl | rfl | rfl <;> simp at h2
theorem symLen_appG (x : List UInt8) (c : UInt8) (r : List UInt8) (hc : EndsG c) (hx : x ≠ []) : symLen (x ++ c :: r) = symLen x := by
 rw [symLen_cases, symLen_cases x]
 match x, hx with
 | [a], _ =>
  have h1 := endsG_sym c hc a
  simp [h1]
 | a :: b :: x, _ => simp
theorem tok_appG (x : List UInt8) (c : UInt8) (r : List UInt8) (hc : EndsG c) (hx : x ≠ []) : tokAt (x ++ c :: r) = tokAt x := by
 obtain ⟨hw, hd⟩ := endsG_word c hc
 have e1 := runLen_app wordB c r hw x
 have e2 := runLen_app digitB c r hd x
 have e3 := symLen_appG x c r hc hx
 have e4 : (x ++ c :: r).take (runLen digitB x) = x.take (runLen digitB x) := by
  rw [List.take_append_of_le_length (runLen_le' _ _)]
 cases x with
 | nil => exact absurd rfl hx
 | cons a x =>
  rw [List.cons_append] at *
  unfold tokAt
  simp only [e1, e2, e3, e4]
/-- a text that can stand before tokens -/
structure GapOk (g : List UInt8) : Prop where
 head : ∃ c r, g = c :: r ∧ EndsG c
 gap : ∀ z, gapLen false z = 0 → gapLen false (g ++ z) = g.length
def someGaps : List (List UInt8) := [[32], [10], [9, 32, 13], [32, 35, 32, 102, 110, 32, 123, 32, 59, 10], [35, 10, 10, 32]]
theorem gaps_ok : ∀ g ∈ someGaps, GapOk g := by
 have b32 : blankB 32 = true := by decide
 have b10 : blankB 10 = true := by decide
 have b9 : blankB 9 = true := by decide
 have b13 : blankB 13 = true := by decide
 have b35 : blankB 35 = false := by decide
 intro g hg
 simp only [someGaps, List.mem_cons, List.not_mem_nil, or_false] at hg
 rcases hg with rfl | rfl | rfl | rfl | rfl
 ·exact ⟨⟨_, _, rfl, .inl rfl⟩, fun z hz => by simp [gap_f, b32, hz]⟩
 ·exact ⟨⟨_, _, rfl, .inr (.inl rfl)⟩, fun z hz => by simp [gap_f, b10, hz]⟩
 ·exact ⟨⟨_, _, rfl, .inr (.inr (.inl rfl))⟩, fun z hz => by simp [gap_f, b32, b9, b13, hz]⟩
 ·exact ⟨⟨_, _, rfl, .inl rfl⟩, fun z hz => by simp [gap_f, gap_t, b32, b35, hz]⟩
 ·exact ⟨⟨_, _, rfl, .inr (.inr (.inr rfl))⟩, fun z hz => by simp [gap_f, gap_t, b32, b10, b35, hz]⟩
def laidT : List (List UInt8 × Tk) → List UInt8
 | [] => []
 | x :: r => x.1 ++ (x.2.text ++ laidT r)
def laidK : Nat → List (List UInt8 × Tk) → List Tk
 | _, [] => []
 | k, x :: r => { x.2 with off := k + x.1.length } :: laidK (k + x.1.length + x.2.text.length) r
theorem laidK_len : ∀ (xs : List (List UInt8 × Tk)) (k : Nat), (laidK k xs).length = xs.length
 | [], _ => rfl
 | x :: r, k => by rw [laidK, List.length_cons, laidK_len r, List.length_cons]
theorem laid_chain : ∀ (xs : List (List UInt8 × Tk)) (p : List UInt8), (∀ x ∈ xs, GapOk x.1 ∧ Whole x.2) → Chain (p ++ laidT xs) (posEnd (p ++ laidT xs) p.length) (laidK p.length xs) := by
 intro xs
 induction xs with
 | nil =>
  intro p _
  show (p ++ []).length ≤ posEnd (p ++ []) p.length
  have := posEnd_ge (p ++ []) p.length
  simpa using this
 | cons x r ih =>
  intro p h
  obtain ⟨g, t⟩ := x
  obtain ⟨hg, ht⟩ : GapOk g ∧ Whole t := h (g, t) (by simp)
  have hr : ∀ x ∈ r, GapOk x.1 ∧ Whole x.2 := fun x hx => h x (by simp [hx])
  have hwg := whole_gap t ht (laidT r)
  obtain ⟨h1, h2, h3⟩ := ht
  have hgap := hg.gap _ hwg
  have ed0 : (p ++ laidT ((g, t) :: r)).drop p.length = g ++ (t.text ++ laidT r) := by simp [laidT]
  have ep : posEnd (p ++ laidT ((g, t) :: r)) p.length = p.length + g.length := by unfold posEnd; rw [ed0, hgap]
  have ed : (p ++ laidT ((g, t) :: r)).drop (p.length + g.length) = t.text ++ laidT r := by
   rw [← List.drop_drop, ed0]; simp
  have hne : t.text ≠ [] := by intro h0; rw [h0] at h3; simp at h3
  have htok : tokAt (t.text ++ laidT r) = tokAt t.text := by
   cases r with
   | nil => simp [laidT]
   | cons y r =>
    obtain ⟨⟨c, gr, e, hc⟩, _⟩ := (hr y (by simp)).1
    rw [laidT, e, List.cons_append]
    exact tok_appG _ _ _ hc hne
  rw [ep]
  refine ⟨by simp [laidT]; omega, rfl, h1, ?_, ?_, h3, by simp [laidT]; omega, ?_⟩
  ·rw [ed, htok]; exact h2
  ·rw [ed]; simp
  ·have := ih (p ++ (g ++ t.text)) hr
   have el : (p ++ (g ++ t.text)).length = p.length + g.length + t.text.length := by simp; omega
   have ea : p ++ laidT ((g, t) :: r) = (p ++ (g ++ t.text)) ++ laidT r := by simp [laidT]
   rw [el, ← ea] at this
   exact this
/-- tokens laid anew have the same tokens, elsewhere -/
theorem laid_lex {l : List UInt8} {ts : List Tk} {a : Nat} (h : lexL l = (ts, 0, a)) (xs : List (List UInt8 × Tk)) (hx : xs.map (·.2) = ts) (hg : ∀ x ∈ xs, GapOk x.1) (hs : (laidT xs).length ≤ 20000) : lexL (laidT xs) = (laidK 0 xs, 0, 0) := by
 obtain ⟨_, _, hn, hch⟩ := lex_chain l (by rw [h])
 rw [h] at hn hch
 have hw := chain_whole l ts _ hch
 have hc := laid_chain xs [] (fun x h => ⟨hg x h, hw _ (by rw [← hx]; exact List.mem_map_of_mem h)⟩)
 refine (chain_lex _ _ hs (by simpa using hc)).1 ?_
 have : xs.length = ts.length := by rw [← hx, List.length_map]
 simp only at hn
 rw [laidK_len]; omega
end Go.Proofs.YtpdhiminpdmpiaaGreatDoor.Lx
