/-
  What Match finds, plainly: with it the pattern becomes the type; and it finds the types by which a pattern was made.
-/
import Derived.Test.YtkhbgdhgjbnhpaaU31
set_option linter.unusedVariables false
set_option linter.unusedSimpArgs false
namespace Go.Proofs.Ytkhbgdhgjbnhpaa
namespace Un
def Ext (s s' : Int → Option Ty) : Prop := ∀ i u, s i = some u → s' i = some u
theorem Ext.refl (s : Int → Option Ty) : Ext s s := fun _ _ h => h
theorem Ext.trans {a b c : Int → Option Ty} (h : Ext a b) (k : Ext b c) : Ext a c := fun i u e => k i u (h i u e)
mutual
theorem mt_ext (n : Int) : ∀ (p t : Ty) (s : Int → Option Ty), Ext s (mt n p t s).1
  | .mk k i al, t, s => by
    rw [mt]
    split
    · cases e : s i with
      | some u => exact Ext.refl s
      | none =>
        intro j u hj
        simp only
        by_cases h : j = i
        · subst h; rw [e] at hj; cases hj
        · rw [if_neg h]; exact hj
    · split
      · split
        · exact mts_ext n al (ar t) s
        · exact Ext.refl s
      · exact Ext.refl s
theorem mts_ext (n : Int) : ∀ (l l' : List Ty) (s : Int → Option Ty), Ext s (mts n l l' s).1
  | [], _, s => by rw [mts]; exact Ext.refl s
  | _ :: _, [], s => by rw [mts]; exact Ext.refl s
  | a :: r, b :: r', s => by
    rw [mts]
    split
    · exact (mt_ext n a b s).trans (mts_ext n r r' _)
    · exact mt_ext n a b s
end
/-- a list has what was found -/
def Fits (n : Int) (s : Int → Option Ty) (m : List Ty) : Prop := ∀ i u, s i = some u → 0 ≤ i ∧ i < n ∧ m[i.toNat]? = some u
theorem subst_par {m : List Ty} {i : Int} {u : Ty} (al : List Ty) (h0 : 0 ≤ i) (hm : m[i.toNat]? = some u) : subst m (.mk 5 i al) = u := by
  have hl : i.toNat < m.length := (List.getElem?_eq_some_iff.1 hm).1
  rw [subst_mk]
  have : rep m (.mk 5 i al) = some u := by
    unfold rep
    simp only [kd, nm]
    rw [if_pos ⟨trivial, h0, by omega⟩]
    exact hm
  rw [this]
mutual
/-- with what is found the pattern becomes the type -/
theorem mt_subst (n : Int) (m : List Ty) : ∀ (p t : Ty) (s : Int → Option Ty), (mt n p t s).2 = true → Fits n (mt n p t s).1 m → subst m p = t
  | .mk k i al, t, s => by
    rw [mt]
    by_cases hk : k = 5
    · rw [if_pos hk]
      subst hk
      cases e : s i with
      | some u =>
        simp only
        intro h1 h2
        have h3 := (same_eq u t).1 h1
        obtain ⟨h0, _, hm⟩ := h2 i u e
        rw [subst_par al h0 hm, h3]
      | none =>
        simp only
        intro h1 h2
        obtain ⟨h0, _, hm⟩ := h2 i t (by simp)
        exact subst_par al h0 hm
    · rw [if_neg hk]
      split
      · rename_i hh
        split
        · rename_i hl
          intro h1 h2
          rw [subst_mk, rep_no hk]
          have h3 := mts_subst n m al (ar t) s hl h1 h2
          simp only [Bool.and_eq_true, beq_iff_eq] at hh
          obtain ⟨k', i', al'⟩ := t
          simp only [kd, nm, ar] at hh h3
          simp only
          rw [h3, hh.1, hh.2]
        · intro h1; cases h1
      · intro h1; cases h1
theorem mts_subst (n : Int) (m : List Ty) : ∀ (l l' : List Ty) (s : Int → Option Ty), l.length = l'.length → (mts n l l' s).2 = true → Fits n (mts n l l' s).1 m → l.map (subst m) = l'
  | [], l', s => by
    intro hl _ _
    have : l' = [] := List.eq_nil_of_length_eq_zero (by simpa using hl.symm)
    rw [this]; rfl
  | _ :: _, [], s => by intro hl; simp at hl
  | a :: r, b :: r', s => by
    rw [mts]
    intro hl
    split
    · rename_i hb
      intro h1 h2
      have h3 : Fits n (mt n a b s).1 m := fun i u e => h2 i u (mts_ext n r r' _ i u e)
      rw [List.map_cons, mt_subst n m a b s hb h3, mts_subst n m r r' _ (by simpa using hl) h1 h2]
    · intro h1; cases h1
end
mutual
/-- all parameters have numbers less than a number, and no arguments -/
def bare (n : Int) : Ty → Bool
  | .mk k i al => if k = 5 then (decide (0 ≤ i) && decide (i < n)) && al.isEmpty else bares n al
def bares (n : Int) : List Ty → Bool
  | [] => true
  | a :: r => bare n a && bares n r
end
mutual
/-- a parameter occurs -/
def hasP (j : Int) : Ty → Bool
  | .mk k i al => (k == 5 && i == j) || hasPs j al
def hasPs (j : Int) : List Ty → Bool
  | [] => false
  | a :: r => hasP j a || hasPs j r
end
mutual
theorem hasP_range {n j : Int} : ∀ p : Ty, bare n p = true → hasP j p = true → 0 ≤ j ∧ j < n
  | .mk k i al => by
    intro hb hp
    rw [bare] at hb
    rw [hasP] at hp
    by_cases hk : k = 5
    · rw [if_pos hk] at hb
      simp only [Bool.and_eq_true, decide_eq_true_eq, List.isEmpty_iff] at hb
      obtain ⟨⟨h0, h1⟩, h2⟩ := hb
      subst h2
      rw [hasPs] at hp
      simp at hp
      omega
    · rw [if_neg hk] at hb
      have : (k == 5) = false := by simpa using hk
      rw [this] at hp
      simp only [Bool.false_and, Bool.false_or] at hp
      exact hasPs_range al hb hp
theorem hasPs_range {n j : Int} : ∀ l : List Ty, bares n l = true → hasPs j l = true → 0 ≤ j ∧ j < n
  | [] => by intro _ h; rw [hasPs] at h; cases h
  | a :: r => by
    intro hb hp
    rw [bares, Bool.and_eq_true] at hb
    rw [hasPs, Bool.or_eq_true] at hp
    rcases hp with hp | hp
    · exact hasP_range a hb.1 hp
    · exact hasPs_range r hb.2 hp
end
mutual
/-- a pattern that was made by a list is matched by it -/
theorem mt_made (l : List Ty) : ∀ (p : Ty) (s : Int → Option Ty), bare l.length p = true → Fits l.length s l → (mt l.length p (subst l p) s).2 = true ∧ ∀ j, (mt l.length p (subst l p) s).1 j = if hasP j p then l[j.toNat]? else s j
  | .mk k i al, s => by
    intro hb hf
    rw [bare] at hb
    by_cases hk : k = 5
    · rw [if_pos hk] at hb
      subst hk
      simp only [Bool.and_eq_true, decide_eq_true_eq, List.isEmpty_iff] at hb
      obtain ⟨⟨h0, h1⟩, h2⟩ := hb
      subst h2
      have hm : l[i.toNat]? = some (l[i.toNat]'(by omega)) := List.getElem?_eq_getElem _
      rw [subst_par [] h0 hm, mt, if_pos rfl]
      have hp : ∀ j : Int, hasP j (.mk 5 i []) = decide (i = j) := fun j => by
        rw [hasP, hasPs, Bool.eq_iff_iff]; simp
      cases e : s i with
      | some u =>
        obtain ⟨_, _, h3⟩ := hf i u e
        rw [hm] at h3
        simp only [Option.some.injEq] at h3
        refine ⟨(same_eq _ _).2 h3.symm, fun j => ?_⟩
        rw [hp]
        by_cases hj : i = j
        · subst hj; simp [e, hm, h3]
        · simp [hj]
      | none =>
        refine ⟨by simp; omega, fun j => ?_⟩
        rw [hp]
        by_cases hj : i = j
        · subst hj; simp [hm]
        · simp [hj]; omega
    · rw [if_neg hk] at hb
      rw [subst_mk, rep_no hk]
      simp only
      rw [mt, if_neg hk]
      simp only [kd, nm, ar, beq_self_eq_true, Bool.and_self, if_true, List.length_map]
      obtain ⟨h1, h2⟩ := mts_made l al s hb hf
      refine ⟨h1, fun j => ?_⟩
      rw [h2 j, hasP]
      have : (k == 5) = false := by simpa using hk
      rw [this]
      simp
theorem mts_made (l : List Ty) : ∀ (ps : List Ty) (s : Int → Option Ty), bares l.length ps = true → Fits l.length s l → (mts l.length ps (ps.map (subst l)) s).2 = true ∧ ∀ j, (mts l.length ps (ps.map (subst l)) s).1 j = if hasPs j ps then l[j.toNat]? else s j
  | [], s => by
    intro _ _
    rw [List.map_nil, mts]
    exact ⟨rfl, fun j => by rw [hasPs]; simp⟩
  | a :: r, s => by
    intro hb hf
    rw [bares, Bool.and_eq_true] at hb
    obtain ⟨h1, h2⟩ := mt_made l a s hb.1 hf
    rw [List.map_cons, mts, if_pos h1]
    have hf2 : Fits l.length (mt l.length a (subst l a) s).1 l := fun i u e => by
      rw [h2 i] at e
      split at e
      · rename_i hj
        have h5 := hasP_range a hb.1 hj
        exact ⟨h5.1, h5.2, e⟩
      · exact hf i u e
    obtain ⟨h3, h4⟩ := mts_made l r _ hb.2 hf2
    refine ⟨h3, fun j => ?_⟩
    rw [h4 j, h2 j, hasPs]
    cases hasP j a <;> cases hasPs j r <;> simp
end
end Un
end Go.Proofs.Ytkhbgdhgjbnhpaa
