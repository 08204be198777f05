/-
  A list of lists that grow, each in a block of its own.
-/
import Derived.Test.YtkhbgdhgjbnhpaaU32
set_option linter.unusedVariables false
set_option linter.unusedSimpArgs false
set_option linter.unusedSectionVars false
namespace Go.Proofs.Ytkhbgdhgjbnhpaa
open Go.RowKit Go.Lib
open Un (kd nm ar size sizes)

/-- lists of pairs of numbers: block P holds their slices, each lies in a block of its own from B on, which is none of A -/
structure RowsV (w : World) (A : Nat → Prop) (B P T E : Nat) (pl : List (List (Int × Int))) : Prop where
  lt : P < B
  ex : ∃ cs : Array Value, Blk w P T cs ∧ cs.size = pl.length ∧ (∀ (v : Nat) (l : List (Int × Int)) (c : Value), pl[v]? = some l → cs[v]? = some c → OwnL w (fun _ => False) B E 2 l.length (rowsQ qPair l) c) ∧
    (∀ (v v' : Nat) (c c' : Value) (g : Nat), v ≠ v' → cs[v]? = some c → cs[v']? = some c' → c.ownBlock = some g → c'.ownBlock ≠ some g) ∧
    ∀ (v : Nat) (c : Value) (g : Nat), cs[v]? = some c → c.ownBlock = some g → ¬ A g
theorem RowsV.blk {w : World} {A : Nat → Prop} {B P T E : Nat} {pl : List (List (Int × Int))} (h : RowsV w A B P T E pl) : P < w.heap.size := by obtain ⟨_, cs, h1, _⟩ := h; exact h1.lt
theorem RowsV.made {w : World} {A : Nat → Prop} {B P T E n : Nat} (hB : P < B) (h : Blk w P T (madeCells #[.slice none 0 0] n)) : RowsV w A B P T E (List.replicate n []) := by
  refine ⟨hB, _, h, by simp [madeCells], fun v l c h1 h2 => ?_, fun v v' c c' g hne h1 h2 h3 => ?_, fun v c g h1 h3 => ?_⟩
  · have e1 : l = [] := by
      have h3 := (List.getElem?_eq_some_iff.1 h1).2
      simpa using h3.symm
    have e2 : c = .slice none 0 0 := by
      rw [← Array.getElem?_toList, toList_madeCells_one] at h2
      have h3 := (List.getElem?_eq_some_iff.1 h2).2
      simpa using h3.symm
    subst e1 e2
    exact OwnL.nil _ _ _ _ _
  · have e2 : c = .slice none 0 0 := by
      rw [← Array.getElem?_toList, toList_madeCells_one] at h1
      have h3 := (List.getElem?_eq_some_iff.1 h1).2
      simpa using h3.symm
    subst e2
    simp [Value.ownBlock] at h3
  · have e2 : c = .slice none 0 0 := by
      rw [← Array.getElem?_toList, toList_madeCells_one] at h1
      have h3 := (List.getElem?_eq_some_iff.1 h1).2
      simpa using h3.symm
    subst e2
    simp [Value.ownBlock] at h3
/-- others are turned -/
theorem RowsV.keep {w w' : World} {A : Nat → Prop} {B P T E : Nat} {pl : List (List (Int × Int))} (h : RowsV w A B P T E pl) {X : List Nat} (hf : Fr X w w') (hX : ∀ k ∈ X, k ≠ P ∧ (k < B ∨ A k)) : RowsV w' A B P T E pl := by
  obtain ⟨hlt, cs, h1, h2, h3, h4, h5⟩ := h
  exact ⟨hlt, cs, h1.keep hf (fun hx => (hX P hx).1 rfl), h2, fun v l c a b => (h3 v l c a b).keepX hf (fun k hk => ⟨fun e => by
    have h6 := ((h3 v l c a b).own k e).1
    rcases (hX k hk).2 with h7 | h7
    · omega
    · exact h5 v c k b e h7, fun h => h⟩), h4, h5⟩
/-- other blocks are kept apart -/
theorem RowsV.apart {w : World} {A A' : Nat → Prop} {B P T E : Nat} {pl : List (List (Int × Int))} (h : RowsV w A B P T E pl) (hA : ∀ g, A' g → A g ∨ w.heap.size ≤ g) : RowsV w A' B P T E pl := by
  obtain ⟨hlt, cs, h1, h2, h3, h4, h5⟩ := h
  refine ⟨hlt, cs, h1, h2, h3, h4, fun v c g a b hg => ?_⟩
  rcases hA g hg with h6 | h6
  · exact h5 v c g a b h6
  · have hu : v < pl.length := by rw [← h2]; exact (Array.getElem?_eq_some_iff.1 a).1
    have := ((h3 v _ c (List.getElem?_eq_getElem hu) a).own g b).2
    omega
theorem RowsV.keep0 {w w' : World} {A : Nat → Prop} {B P T E : Nat} {pl : List (List (Int × Int))} (h : RowsV w A B P T E pl) (hf : Fr [] w w') : RowsV w' A B P T E pl := h.keep hf (by simp)
/-- the slice at a place -/
theorem RowsV.el {w : World} {A : Nat → Prop} {B P T E : Nat} {pl : List (List (Int × Int))} (h : RowsV w A B P T E pl) {v : Nat} {l : List (Int × Int)} (hv : pl[v]? = some l) :
    ∃ p c, w.cell? ⟨P, v, none⟩ = some (.slice p l.length c) ∧ OwnL w (fun _ => False) B E 2 l.length (rowsQ qPair l) (.slice p l.length c) ∧ (∀ o, w.frozen? ⟨P, o, none⟩ = false) ∧ ∀ g, (Value.slice p l.length c).ownBlock = some g → ¬ A g := by
  obtain ⟨_, cs, h1, h2, h3, _, h7⟩ := h
  have hl : v < cs.size := by rw [h2]; exact (List.getElem?_eq_some_iff.1 hv).1
  have hc : cs[v]? = some cs[v] := Array.getElem?_eq_getElem hl
  have h5 := h3 v l _ hv hc
  obtain ⟨p, c, e⟩ := h5.shape
  rw [e] at hc h5
  exact ⟨p, c, by rw [h1.cell]; exact hc, h5, h1.frozen, fun g hg => h7 v _ g hc hg⟩
/-- a list has grown, and its slice is stored -/
theorem RowsV.grown {w w' : World} {A : Nat → Prop} {B P T E : Nat} {pl : List (List (Int × Int))} (h : RowsV w A B P T E pl) (hB : B ≤ w.heap.size) {v : Nat} {l l' : List (Int × Int)} (hv : pl[v]? = some l) {p : Option Addr} {c : Nat} (hc : w.cell? ⟨P, v, none⟩ = some (.slice p l.length c)) {c2 : Value}
    (hg : w.grownBy w' (Value.slice p l.length c).ownBlock) (ho : OwnL w' (fun _ => False) B E 2 l'.length (rowsQ qPair l') c2) (hn : ∀ k, c2.ownBlock = some k → w.heap.size ≤ k ∨ (Value.slice p l.length c).ownBlock = some k) (hA : ∀ k, A k → k < w.heap.size) :
    RowsV (w'.setCell ⟨P, v, none⟩ c2) A B P T E (pl.set v l') := by
  obtain ⟨hlt, cs, h1, h2, h3, h4, h9⟩ := h
  have hl : v < pl.length := (List.getElem?_eq_some_iff.1 hv).1
  have hcv : cs[v]? = some (.slice p l.length c) := by rw [← hc, h1.cell]
  have hov := h3 v l _ hv hcv
  have hP : ∀ g, (Value.slice p l.length c).ownBlock = some g → g ≠ P := fun g hg => by have := (hov.own g hg).1; omega
  have hbP : Blk w' P T cs := (hg.block P h1.lt (fun e => hP P e.symm rfl)).trans h1
  have hfS : Fr [P] w' (w'.setCell ⟨P, v, none⟩ c2) := (Fr.refl [P] w').setCell (.inl (by simp)) _
  refine ⟨hlt, cs.setIfInBounds v c2, hbP.set _ _, by simp [h2], fun u m d a b => ?_, fun u u' d d' g hne a b e => ?_, fun u d g a e hAg => ?_⟩
  · by_cases e : u = v
    · subst e
      rw [List.getElem?_set_self hl] at a
      rw [Array.getElem?_setIfInBounds_self_of_lt (by omega)] at b
      simp only [Option.some.injEq] at a b
      subst a b
      exact ho.keep hfS (fun k hk => by simp only [List.mem_singleton] at hk; subst hk; exact ⟨hlt, fun h => h⟩)
    · rw [List.getElem?_set_ne (by omega)] at a
      rw [Array.getElem?_setIfInBounds_ne (by omega)] at b
      have h5 := h3 u m d a b
      have hfg : Fr (Value.slice p l.length c).ownBlock.toList w w' := ⟨hg.os, hg.tape, hg.output, hg.size, fun k hk hx => hg.block k hk (fun e => hx (by simp [← e]))⟩
      have h6 := h5.keepX hfg (fun k hk => ⟨fun e1 => h4 v u _ _ k (by omega) hcv b (by simpa using hk) e1, fun h => h⟩)
      exact h6.keep hfS (fun k hk => by simp only [List.mem_singleton] at hk; subst hk; exact ⟨hlt, fun h => h⟩)
  · by_cases e1 : u = v
    · subst e1
      rw [Array.getElem?_setIfInBounds_self_of_lt (by omega)] at a
      rw [Array.getElem?_setIfInBounds_ne (by omega)] at b
      simp only [Option.some.injEq] at a
      subst a
      intro e2
      rcases hn g e with h7 | h7
      · have hu' : u' < pl.length := by rw [← h2]; exact (Array.getElem?_eq_some_iff.1 b).1
        have := ((h3 u' _ d' (List.getElem?_eq_getElem hu') b).own g e2).2
        omega
      · exact h4 u u' _ _ g (by omega) hcv b h7 e2
    · rw [Array.getElem?_setIfInBounds_ne (by omega)] at a
      by_cases e3 : u' = v
      · subst e3
        rw [Array.getElem?_setIfInBounds_self_of_lt (by omega)] at b
        simp only [Option.some.injEq] at b
        subst b
        intro e2
        rcases hn g e2 with h7 | h7
        · have hu : u < pl.length := by rw [← h2]; exact (Array.getElem?_eq_some_iff.1 a).1
          have := ((h3 u _ d (List.getElem?_eq_getElem hu) a).own g e).2
          omega
        · exact h4 u' u _ _ g (by omega) hcv a h7 e
      · rw [Array.getElem?_setIfInBounds_ne (by omega)] at b
        exact h4 u u' d d' g hne a b e
  · by_cases e1 : u = v
    · subst e1
      rw [Array.getElem?_setIfInBounds_self_of_lt (by omega)] at a
      simp only [Option.some.injEq] at a
      subst a
      rcases hn g e with h7 | h7
      · have := hA g hAg; omega
      · exact h9 u _ g hcv h7 hAg
    · rw [Array.getElem?_setIfInBounds_ne (by omega)] at a
      exact h9 u d g a e hAg
end Go.Proofs.Ytkhbgdhgjbnhpaa
