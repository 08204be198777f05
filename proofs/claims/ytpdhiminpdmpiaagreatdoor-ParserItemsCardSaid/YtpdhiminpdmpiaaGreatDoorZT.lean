/-
 The tokens of a text in which the second token is replaced by a word; a text with a further semicolon.
-/
import Derived.Test.YtpdhiminpdmpiaaGreatDoorZA
set_option linter.unusedVariables false
set_option linter.unusedSimpArgs false
set_option linter.unusedSectionVars false
set_option linter.unusedVariables false
set_option linter.unusedSimpArgs false
set_option linter.unusedSectionVars false
namespace Go.Proofs.YtpdhiminpdmpiaaGreatDoor.Lx
theorem gap_f (a : UInt8) (z : List UInt8) : gapLen false (a :: z) = if blankB a = true then gapLen false z + 1 else if (a == 35) = true then gapLen true z + 1 else 0 := by rw [gapLen]
/-- a byte that begins no gap -/
def NonGap (c : UInt8) : Prop := blankB c = false ∧ c ≠ 35
theorem NonGap.zero {c : UInt8} (h : NonGap c) (y : List UInt8) : gapLen false (c :: y) = 0 := by
 rw [gap_f, if_neg (by rw [h.1]; decide), if_neg (by simpa using h.2)]
theorem NonGap.ne {c : UInt8} (h : NonGap c) : c ≠ 10 := by rintro rfl; exact absurd h.1 (by decide)
end Go.Proofs.YtpdhiminpdmpiaaGreatDoor.Lx
/-
 The text behind a token by itself; two texts joined; texts of tokens laid anew with gaps before them.
-/
set_option linter.unusedVariables false
set_option linter.unusedSimpArgs false
set_option linter.unusedSectionVars false
namespace Go.Proofs.YtpdhiminpdmpiaaGreatDoor.Lx
theorem chain_unshift2 (q s : List UInt8) : ∀ (ys : List Tk) (k : Nat), Chain (q ++ s) (q.length + k) ys → ∃ zs, Chain s k zs ∧ ys = zs.map (shift q.length) := by
 intro ys
 induction ys with
 | nil => intro k h; have : (q ++ s).length ≤ q.length + k := h; rw [List.length_append] at this; exact ⟨[], by show s.length ≤ k; omega, rfl⟩
 | cons t r ih =>
  intro k h
  obtain ⟨h1, h2, h3, h4, h5, h6, h7, h8⟩ := h
  have ed : (q ++ s).drop (q.length + k) = s.drop k := by rw [List.drop_append]; simp
  have ep : posEnd (q ++ s) (q.length + k + t.text.length) = q.length + posEnd s (k + t.text.length) := by
   unfold posEnd
   have ed' : (q ++ s).drop (q.length + k + t.text.length) = s.drop (k + t.text.length) := by
    rw [show q.length + k + t.text.length = q.length + (k + t.text.length) from by omega, List.drop_append]; simp
   rw [ed']; omega
  rw [ep] at h8
  obtain ⟨zs, z1, z2⟩ := ih _ h8
  rw [List.length_append] at h1 h7
  refine ⟨{ t with off := k } :: zs, ⟨by omega, rfl, h3, by rw [← ed]; exact h4, by rw [← ed]; exact h5, h6, by show k + t.text.length ≤ _; omega, z1⟩, ?_⟩
  rw [List.map_cons, ← z2]
  congr 1
  cases t
  simp only [shift] at h2 ⊢
  congr 1
  omega
theorem chain_count (l : List UInt8) : ∀ (ts : List Tk) (k : Nat), Chain l k ts → ts.length + k ≤ l.length ∨ ts = [] := by
 intro ts
 induction ts with
 | nil => intro k _; exact .inr rfl
 | cons t r ih =>
  intro k h
  obtain ⟨h1, _, _, _, _, h6, h7, h8⟩ := h
  have hg := posEnd_ge l (k + t.text.length)
  rcases ih _ h8 with h | h
  ·left; simp; omega
  ·subst h; left; simp; omega
theorem lex_count {l : List UInt8} {ts : List Tk} {a : Nat} (h : lexL l = (ts, 0, a)) : ts.length ≤ l.length := by
 obtain ⟨_, _, _, hch⟩ := lex_chain l (by rw [h])
 rw [h] at hch
 rcases chain_count l ts _ hch with h | h
 ·omega
 ·subst h; simp
/-- what follows the third token, a semicolon -/
theorem lex_rest {l : List UInt8} {t0 t1 t2 : Tk} {r : List Tk} {a : Nat} (h : lexL l = (t0 :: t1 :: t2 :: r, 0, a)) (h2 : t2.text = [59]) :
  t2.off + 1 ≤ l.length ∧ ∃ zs, lexL (l.drop (t2.off + 1)) = (zs, 0, 0) ∧ r = zs.map (shift (t2.off + 1)) := by
 obtain ⟨k1, _, k3, hch⟩ := lex_chain l (by rw [h])
 rw [h] at k3 hch
 simp only at k3 hch
 obtain ⟨_, _, _, _, _, _, _, c1⟩ := hch
 obtain ⟨_, _, _, _, _, _, _, c2⟩ := c1
 obtain ⟨_, e, _, _, _, _, hle, c3⟩ := c2
 rw [← e, h2] at c3 hle
 have hle' : t2.off + 1 ≤ l.length := hle
 refine ⟨hle', ?_⟩
 have c3' : Chain l (posEnd l (t2.off + 1)) r := c3
 obtain ⟨p, hp⟩ : ∃ p, p = t2.off + 1 := ⟨_, rfl⟩
 rw [← hp] at c3' hle' ⊢
 have hq : (l.take p).length = p := by rw [List.length_take]; omega
 have e1 : posEnd l p = (l.take p).length + posEnd (l.drop p) 0 := by unfold posEnd; rw [hq, List.drop_zero]; omega
 rw [e1] at c3'
 have c4 : Chain (l.take p ++ l.drop p) ((l.take p).length + posEnd (l.drop p) 0) r := by rw [List.take_append_drop]; exact c3'
 obtain ⟨zs, z1, z2⟩ := chain_unshift2 _ _ _ _ c4
 rw [hq] at z2
 refine ⟨zs, (chain_lex _ _ (by rw [List.length_drop]; omega) z1).1 ?_, z2⟩
 have : r.length = zs.length := by rw [z2, List.length_map]
 simp at k3
 omega
/-- two texts with a line feed between them -/
theorem lex_join {a b : List UInt8} {xs ys : List Tk} {i j : Nat} (ha : lexL a = (xs, 0, i)) (hb : lexL b = (ys, 0, j)) (hn : xs.length + ys.length ≤ 6000) (hl : a.length + 1 + b.length ≤ 20000) :
  lexL (a ++ 10 :: b) = (xs ++ ys.map (shift (a.length + 1)), 0, 0) := by
 obtain ⟨_, _, _, h1⟩ := lex_chain a (by rw [ha])
 obtain ⟨_, _, _, h2⟩ := lex_chain b (by rw [hb])
 rw [ha] at h1
 rw [hb] at h2
 exact (chain_lex _ _ (by simp; omega) (lex_concat a b xs ys h1 h2)).1 (by simp; omega)
/-- a byte that ends every token -/
def EndsG (c : UInt8) : Prop := c = 32 ∨ c = 10 ∨ c = 9 ∨ c = 35
/-- a text that can stand before tokens -/
structure GapOk (g : List UInt8) : Prop where
 head : ∃ c r, g = c :: r ∧ EndsG c
 gap : ∀ z, gapLen false z = 0 → gapLen false (g ++ z) = g.length
end Go.Proofs.YtpdhiminpdmpiaaGreatDoor.Lx
