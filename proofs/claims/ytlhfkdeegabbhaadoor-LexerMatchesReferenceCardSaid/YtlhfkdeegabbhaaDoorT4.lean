/-
  The reference's Token, all cases; the append of the reference's Lex; one round of it, of the definitions.
-/
import Derived.Test.YtlhfkdeegabbhaaDoorT3
import Derived.Test.YtlhfkdeegabbhaaDoorW11
import Derived.OwnWalk
namespace Go.Proofs.YtlhfkdeegabbhaaDoor
open Go.RowKit Go.Lib

theorem wpList_append_row {P : Program} (w : World) {ops : Array Oper} {rest : List Oper} {o : Oper} {a : Act} {Q : Exit → Act → World → Prop}
    (hg : o.guard = none) (s x : Operand) (t : TypeId) (hop : o.op = Op.call { callee := Callee.builtin Builtin.append, args := #[s, x], argTypes := #[t, t] })
    (base : Nat) (e : TypeId) (i : TypeInfo) (z : Value) (size bytes : Nat) (h1 : P.underlying t = some (.slice e)) (h2 : P.info? e = some i) (h3 : i.zero = some z) (h4 : i.size = size) (h5 : i.bytes = bytes) (h6 : z.cells.size = size) (h7 : 0 < size)
    (v : Value) (k : Nat) (xs : List Value) (hs : a.eval s = v) (hown : w.ownsRow base e size v k xs) (hn0 : k = 0 → v = .slice none 0 0) (ad : Addr) (c : Nat) (news : List Value) (hx : a.eval x = .slice (some ad) 1 c) (hn : news.length = 1 * size)
    (hc : ∀ j u, news[j]? = some u → w.cell? (ad.add j) = some u) (h1c : ∀ u ∈ news, u.oneCell' = true) (b1 : k + 1 ≤ maxLen) (b2 : (k + 1) * bytes ≤ 140737488355328) (b3 : base ≤ w.heap.size)
    (hK : ∀ v' w' row, w'.ownsRow base e size v' (k + 1) (xs ++ news) → w.grownBy w' row → (∀ r, row = some r → base ≤ r ∧ ∃ cur, w.heap[r]? = some (.cells cur e (0, 0)) ∧ 2 * size ≤ cur.size) → wpList P ops Q rest (a.put o.dst v') w') :
    wpList P ops Q (o :: rest) a w := by
  refine wpList_plain hg fun K hK' => ?_
  obtain ⟨v', w', row, hrun, r1, r2, r3⟩ := run_append_row (P := P) w base t o.type e i z size bytes h1 h2 h3 h4 h5 h6 h7 v k xs hown hn0 ad c news hn hc h1c b1 b2 b3
  unfold Oper.wp
  simp [execOp, hop, resolve, invoke, builtin, hs, hx, hrun, Result.andThen]
  exact hK' _ _ (hK v' w' row r1 r2 r3)

/-- the reference refuses such a token -/
def TooLong (K : Nat) (x : ByteArray) (N : Nat) : Prop := K = 1 ∧ 24 < x.size ∨ K = 2 ∧ (10 < x.size ∨ 1000000000 < N)
def TokSays (s : ByteArray) (k K : Nat) (x : ByteArray) (N O : Nat) : Prop :=
  (K = 0 ∧ Lx.tokAt (s.data.toList.drop k) = (0, 0, 3)) ∨
  ((K = 1 ∨ K = 2 ∨ K = 3) ∧ x.size ≤ 20000 ∧ N ≤ 10000000000 ∧ TooLong K x N ∧ Lx.tokAt (s.data.toList.drop k) = (0, 0, 2)) ∨
  ((K = 1 ∨ K = 2 ∨ K = 3) ∧ x.size ≤ 20000 ∧ N ≤ 10000000000 ∧ ¬ TooLong K x N ∧ Lx.tokAt (s.data.toList.drop k) = (K, x.size, N) ∧ x = s.extract k (k + x.size) ∧ O = k ∧ 0 < x.size ∧ k + x.size ≤ s.size)

theorem ref_token (s : ByteArray) (k : Nat) (w : World) (hs : s.size ≤ 20000) (hk : k < s.size) :
    Calls Tryd.prog 20 #[.string s, .int .i64 k] w fun e w' => ∃ K x N O, e = .returned (.agg #[.int .i64 (K : Nat), .string x, .int .i64 (N : Nat), .int .i64 (O : Nat)]) ∧ TokSays s k K x N O ∧ Below w.heap.size w w' := by
  have hdc := drop_cons s k hk
  have hpos : ∀ (p : UInt8 → Bool), p s[k] = true → k < runEndF p s k := fun p hp => by rw [runEndF_yes p s k hk hp]; have := runEndF_ge p s (k + 1); omega
  have hrun : ∀ (p : UInt8 → Bool), runEndF p s k = k + Lx.runLen p (s.data.toList.drop k) := fun p => rfl
  have hxs : ∀ m, k + m ≤ s.size → (s.extract k (k + m)).size = m := fun m hm => by rw [ByteArray.size_extract]; omega
  by_cases hl : Lx.letterB s[k] = true
  · refine (token_name s k w hs hk hl).mono ?_
    rintro e w' ⟨rfl, hb⟩
    have hle := runEndF_le Lx.wordB s k (by omega)
    have hgt := hpos Lx.wordB (Lx.letter_word' _ hl)
    obtain ⟨m, hm⟩ : ∃ m, m = Lx.runLen Lx.wordB (s.data.toList.drop k) := ⟨_, rfl⟩
    rw [hrun, ← hm] at hle hgt
    have hz := hxs m hle
    have ht : Lx.tokAt (s.data.toList.drop k) = if 24 < m then (0, 0, 2) else (1, m, 0) := by
      rw [hm, hdc]; unfold Lx.tokAt; simp only [hl, if_true]
    rw [hrun, ← hm]
    refine ⟨1, s.extract k (k + m), 0, k, rfl, ?_, hb⟩
    by_cases h24 : 24 < m
    · right; left
      exact ⟨.inl rfl, by omega, by omega, .inl ⟨rfl, by omega⟩, by rw [ht, if_pos h24]⟩
    · right; right
      refine ⟨.inl rfl, by omega, by omega, ?_, by rw [ht, if_neg h24, hz], by rw [hz], rfl, by omega, by omega⟩
      rintro (⟨_, h⟩ | ⟨h, _⟩) <;> omega
  · have hl' : Lx.letterB s[k] = false := by simpa using hl
    by_cases hd : Lx.digitB s[k] = true
    · refine (token_num s k w hs hk hl' hd).mono ?_
      rintro e w' ⟨rfl, hb⟩
      have hle := runEndF_le Lx.digitB s k (by omega)
      have hgt := hpos Lx.digitB hd
      obtain ⟨m, hm⟩ : ∃ m, m = Lx.runLen Lx.digitB (s.data.toList.drop k) := ⟨_, rfl⟩
      rw [hrun, ← hm] at hle hgt
      have hz := hxs m hle
      obtain ⟨V, hV⟩ : ∃ V, V = Lx.numVal 0 ((s.data.toList.drop k).take m) := ⟨_, rfl⟩
      have ht : Lx.tokAt (s.data.toList.drop k) = if 10 < m ∨ 1000000000 < V then (0, 0, 2) else (2, m, V) := by
        rw [hV, hm, hdc]; unfold Lx.tokAt; simp only [hl', hd, Bool.false_eq_true, if_false, if_true]
      rw [hrun, ← hm, Nat.add_sub_cancel_left, Lx.capV_zero, ← hV]
      refine ⟨2, s.extract k (k + m), min V 10000000000, k, rfl, ?_, hb⟩
      by_cases h24 : 10 < m ∨ 1000000000 < V
      · right; left
        refine ⟨.inr (.inl rfl), by omega, by omega, .inr ⟨rfl, ?_⟩, by rw [ht, if_pos h24]⟩
        rcases h24 with h | h
        · left; omega
        · right; omega
      · right; right
        have hmin : min V 10000000000 = V := by omega
        rw [hmin]
        refine ⟨.inr (.inl rfl), by omega, by omega, ?_, by rw [ht, if_neg h24, hz], by rw [hz], rfl, by omega, by omega⟩
        rintro (⟨h, _⟩ | ⟨_, h⟩)
        · omega
        · rw [hz] at h; exact h24 h
    · have hd' : Lx.digitB s[k] = false := by simpa using hd
      refine (token_sym s k w hs hk hl' hd').mono ?_
      rintro e w' ⟨rfl, hb⟩
      obtain ⟨m, hm⟩ : ∃ m, m = Lx.symLen (s.data.toList.drop k) := ⟨_, rfl⟩
      have ht : Lx.tokAt (s.data.toList.drop k) = if m = 0 then (0, 0, 3) else (3, m, 0) := by
        rw [hm, hdc]; unfold Lx.tokAt; simp only [hl', hd', Bool.false_eq_true, if_false]
      unfold symV
      rw [← hm]
      by_cases h0 : m = 0
      · rw [if_pos h0]
        exact ⟨0, ⟨#[]⟩, 0, 0, rfl, .inl ⟨rfl, by rw [ht, if_pos h0]⟩, hb⟩
      · rw [if_neg h0]
        have hle : k + m ≤ s.size := by
          have h1 := Lx.tok_len (s.data.toList.drop k) (by rw [ht, if_neg h0]; simp)
          rw [ht, if_neg h0] at h1
          have e2 : s.data.toList.length = s.size := by simp
          rw [List.length_drop, e2] at h1
          simp only at h1
          omega
        have hz := hxs m hle
        refine ⟨3, s.extract k (k + m), 0, k, rfl, .inr (.inr ⟨.inr (.inr rfl), by omega, by omega, ?_, by rw [ht, if_neg h0, hz], by rw [hz], rfl, by omega, by omega⟩), hb⟩
        rintro (⟨h, _⟩ | ⟨h, _⟩) <;> omega

/-- what is still to be collected from an offset on -/
def Rest (l : List UInt8) (k : Nat) (acc : List Lx.Tk) : List Lx.Tk × Nat × Nat := Lx.collect acc.length (Lx.yields l (l.length - k + 1) k) acc
theorem rest_end (l : List UInt8) (k : Nat) (acc : List Lx.Tk) (h : l.length ≤ k) : Rest l k acc = (acc, 0, 0) := by
  unfold Rest
  rw [show l.length - k + 1 = 0 + 1 from by omega]
  unfold Lx.yields
  rw [if_neg (by omega)]
  rfl
theorem rest_err (l : List UInt8) (k : Nat) (acc : List Lx.Tk) (er : Nat) (h : k < l.length) (he : er ≠ 0) (ht : Lx.tokAt (l.drop k) = (0, 0, er)) : Rest l k acc = ([], er, k) := by
  unfold Rest
  unfold Lx.yields
  rw [if_pos h, ht, if_pos rfl]
  unfold Lx.collect
  rw [if_pos he]
theorem rest_full (l : List UInt8) (k : Nat) (acc : List Lx.Tk) (K m n : Nat) (h : k < l.length) (ht : Lx.tokAt (l.drop k) = (K, m, n)) (hK : K ≠ 0) (hf : acc.length = 6000) : Rest l k acc = ([], 2, k) := by
  unfold Rest
  unfold Lx.yields
  rw [if_pos h, ht, if_neg hK]
  unfold Lx.collect
  rw [if_neg (by simp), if_pos hf]
theorem rest_next (l : List UInt8) (k : Nat) (acc : List Lx.Tk) (K m n : Nat) (h : k < l.length) (ht : Lx.tokAt (l.drop k) = (K, m, n)) (hK : K ≠ 0) (hm : 0 < m) (hf : acc.length ≠ 6000) :
    Rest l k acc = Rest l (Lx.posEnd l (k + m)) (acc ++ [⟨K, (l.drop k).take m, n, k⟩]) := by
  have hp := Lx.posEnd_ge l (k + m)
  unfold Rest
  rw [show Lx.yields l (l.length - k + 1) k = ⟨⟨K, (l.drop k).take m, n, k⟩, 0⟩ :: Lx.yields l (l.length - k) (Lx.posEnd l (k + m)) from by
    conv => lhs; unfold Lx.yields
    rw [if_pos h, ht, if_neg hK]]
  conv => lhs; unfold Lx.collect
  rw [if_neg (by simp), if_neg hf, Lx.yields_fuel l (l.length - k) (l.length - Lx.posEnd l (k + m) + 1) _ (by omega) (by omega), List.length_append]
  rfl
theorem rest_start (l : List UInt8) (h : l.length ≤ 20000) : Lx.lexL l = Rest l (Lx.posEnd l 0) [] := by
  unfold Lx.lexL Rest
  rw [if_neg (by omega)]
  unfold Lx.allYields
  rw [Lx.yields_fuel l (l.length + 1) (l.length - Lx.posEnd l 0 + 1) _ (by omega) (by omega)]
  rfl
end Go.Proofs.YtlhfkdeegabbhaaDoor
