/-
  Maps from numbers to types.
-/
import Derived.Test.YtkhbgdhgjbnhpaaU28
import Derived.Maps.RangeWalk
set_option linter.unusedVariables false
set_option linter.unusedSimpArgs false
set_option linter.unusedSectionVars false
namespace Go.Proofs.Ytkhbgdhgjbnhpaa
open Go.RowKit Go.Lib Go.Maps
open Un (kd nm ar size sizes)

def IsTyV (v : Value) : Prop := ∃ a b p n c, v = .agg #[.int .i64 a, .int .i64 b, .slice p n c]
open Classical in
/-- how an element is kept: as itself -/
noncomputable def tyElem (v : Value) : Option (DataW Value × List MemPlace) := if IsTyV v then some (.held v, []) else none
theorem tyElem_mk {v : Value} (h : IsTyV v) : tyElem v = some (.held v, []) := by unfold tyElem; rw [if_pos h]
theorem tyElem_inv {v : Value} {y : DataW Value × List MemPlace} (h : tyElem v = some y) : IsTyV v ∧ y = (.held v, []) := by
  unfold tyElem at h
  split at h
  · rename_i hv
    simp only [Option.some.injEq] at h
    exact ⟨hv, h.symm⟩
  · cases h
def zeroTyV : Value := .agg #[.int .i64 0, .int .i64 0, .slice none 0 0]
theorem isTy_zero : IsTyV zeroTyV := ⟨_, _, _, _, _, rfl⟩
theorem TyV.isTy {w : World} {N : Nat → Prop} {t : Ty} {cs : List Value} (h : TyV w N t cs) : IsTyV (.agg cs.toArray) := by
  obtain ⟨p, c, rfl, _⟩ := h.shape
  exact ⟨_, _, _, _, _, rfl⟩
theorem zero_ty (w : World) : (zeroValue 24).run Try.prog w = .ok zeroTyV w := by kernel_rfl
/-- what a map holds at a key -/
def HoldsTy (w : World) (N : Nat → Prop) (D : DataW Value) (i : Int) (o : Option Ty) : Prop := match o with
  | none => Maps.has D (.int .i64 i) = false
  | some t => Maps.has D (.int .i64 i) = true ∧ ∃ cs : List Value, (∀ z, D.atKey (.int .i64 i) z = .held (.agg cs.toArray)) ∧ TyV w N t cs
/-- a map from numbers to types of at most n entries; what the types lead to is of some kind -/
def MapTy (w : World) (N : Nat → Prop) (m n : Nat) (f : Int → Option Ty) : Prop :=
  ∃ D : DataW Value, w.ownsMap Try.prog 3 tyElem m n D ∧ ∀ i : Int, (Lit.int .i64 i).wf = true → HoldsTy w N D i (f i)
theorem MapTy.made (w : World) (N : Nat → Prop) : MapTy (w.alloc (.map #[] 0)) N w.heap.size 0 (fun _ => none) := ⟨_, World.ownsMap_made _ _ _ _, fun i _ => rfl⟩
theorem MapTy.lt {w : World} {N : Nat → Prop} {m n : Nat} {f : Int → Option Ty} (h : MapTy w N m n f) : m < w.heap.size := by obtain ⟨_, h, _⟩ := h; exact h.lt
theorem HoldsTy.keep {w w' : World} {N : Nat → Prop} {D : DataW Value} {i : Int} {o : Option Ty} (h : HoldsTy w N D i o) {X : List Nat} (hf : Fr X w w') (hX : ∀ k ∈ X, ¬ N k) : HoldsTy w' N D i o := by
  cases o with
  | none => exact h
  | some t =>
    obtain ⟨h1, cs, h2, h3⟩ := h
    exact ⟨h1, cs, h2, h3.keep hf hX⟩
theorem MapTy.keep {w w' : World} {N : Nat → Prop} {m n : Nat} {f : Int → Option Ty} (h : MapTy w N m n f) {X : List Nat} (hf : Fr X w w') (hm : m ∉ X) (hX : ∀ k ∈ X, ¬ N k) : MapTy w' N m n f := by
  have hl := h.lt
  obtain ⟨D, ⟨es, clock, hb, r⟩, hD⟩ := h
  exact ⟨D, ⟨es, clock, (hf.block m hl hm).trans hb, r⟩, fun i hi => (hD i hi).keep hf hX⟩
theorem MapTy.mono {w : World} {N : Nat → Prop} {m n n' : Nat} {f : Int → Option Ty} (h : MapTy w N m n f) (hn : n ≤ n') : MapTy w N m n' f := by
  obtain ⟨D, h, hD⟩ := h
  exact ⟨D, h.mono hn, hD⟩
section
variable (w : World) {ops : Array Oper} {rest : List Oper} {o : Oper} {a : Act} {Q : Exit → Act → World → Prop}
/-- v, ok := m[i]: it is not there -/
theorem wpList_look_none (hg : o.guard = none) (m x : Operand) (t : TypeId) (hop : o.op = Op.lookup t m x true) (ht : Try.prog.underlying t = some (.map 3 24)) (N : Nat → Prop) (b n : Nat) (f : Int → Option Ty)
    (hm : a.eval m = .map (some b)) (hown : MapTy w N b n f) (i : Int) (hx : a.eval x = .int .i64 i) (hi : (Lit.int .i64 i).wf = true) (hf : f i = none)
    (hK : wpList Try.prog ops Q rest (a.put o.dst (.tuple #[.agg #[.int .i64 0, .int .i64 0, .slice none 0 0], .bool false])) w) : wpList Try.prog ops Q (o :: rest) a w := by
  obtain ⟨D, hD, hh⟩ := hown
  have h1 := hh i hi
  rw [hf] at h1
  refine wpList_lookup_own_ok w hg m x t hop _ _ keyed_int ht tyElem (zero_ty w) _ _ (tyElem_mk isTy_zero) b n D hm hD _ _ hx (keyOf_int_mk Try.underlying3 hi) (fun v ps hv => ?_)
  rw [atKey_of_not_has h1] at hv
  have h2 := (tyElem_inv hv).2
  simp only [Prod.mk.injEq, DataW.held.injEq] at h2
  rw [h1, ← h2.1]
  exact hK
/-- .. it is there -/
theorem wpList_look_some (hg : o.guard = none) (m x : Operand) (t : TypeId) (hop : o.op = Op.lookup t m x true) (ht : Try.prog.underlying t = some (.map 3 24)) (N : Nat → Prop) (b n : Nat) (f : Int → Option Ty)
    (hm : a.eval m = .map (some b)) (hown : MapTy w N b n f) (i : Int) (hx : a.eval x = .int .i64 i) (hi : (Lit.int .i64 i).wf = true) (y : Ty) (hf : f i = some y)
    (hK : ∀ p c, TyV w N y [.int .i64 (kd y), .int .i64 (nm y), .slice p (ar y).length c] → wpList Try.prog ops Q rest (a.put o.dst (.tuple #[.agg #[.int .i64 (kd y), .int .i64 (nm y), .slice p (ar y).length c], .bool true])) w) : wpList Try.prog ops Q (o :: rest) a w := by
  obtain ⟨D, hD, hh⟩ := hown
  have h1 := hh i hi
  rw [hf] at h1
  obtain ⟨h1, cs, h2, h3⟩ := h1
  refine wpList_lookup_own_ok w hg m x t hop _ _ keyed_int ht tyElem (zero_ty w) _ _ (tyElem_mk isTy_zero) b n D hm hD _ _ hx (keyOf_int_mk Try.underlying3 hi) (fun v ps hv => ?_)
  rw [h2] at hv
  have h4 := (tyElem_inv hv).2
  simp only [Prod.mk.injEq, DataW.held.injEq] at h4
  rw [h1, ← h4.1]
  obtain ⟨p, c, rfl, _⟩ := h3.shape
  exact hK p c h3
/-- m[i] = t -/
theorem wpList_put_ty (hg : o.guard = none) (m x v : Operand) (t : TypeId) (hop : o.op = Op.mapUpdate t m x v) (ht : Try.prog.underlying t = some (.map 3 24)) (N : Nat → Prop) (b n : Nat) (f : Int → Option Ty)
    (hm : a.eval m = .map (some b)) (hown : MapTy w N b n f) (hn : n < 9223372036854775807) (i : Int) (y : Ty) (cs : List Value) (hx : a.eval x = .int .i64 i) (hv : a.eval v = .agg cs.toArray) (hi : (Lit.int .i64 i).wf = true) (hy : TyV w N y cs) (hNb : ¬ N b)
    (hK : ∀ w', MapTy w' N b (n + 1) (fun j => if j = i then some y else f j) → Fr [b] w w' → wpList Try.prog ops Q rest (a.put o.dst undef) w') : wpList Try.prog ops Q (o :: rest) a w := by
  obtain ⟨D, hD, hf⟩ := hown
  have hik : WideAt.IsKeyLit (.int .i64 i) := trivial
  refine wpList_mapUpdate_own w hg m x v t hop _ _ keyed_int ht _ b n D hm hD (by unfold maxLen; omega) _ _ _ hx hv (keyOf_int_mk Try.underlying3 hi) (.held (.agg cs.toArray)) [] (tyElem_mk hy.isTy) (fun w' h1 h2 => ?_)
  have hfr : Fr [b] w w' := ⟨h2.os, h2.tape, h2.output, h2.size, fun k hk hx => h2.block k hk (fun e => hx (by simp at e; simp [e]))⟩
  refine hK w' ⟨_, h1, fun j hj => ?_⟩ hfr
  by_cases e : j = i
  · subst e
    have hif : (fun k => if k = j then some y else f k) j = some y := if_pos rfl
    rw [hif]
    exact ⟨has_put_same hD.isMap hik _, cs, fun z => atKey_put_same hD.isMap hik _ _, hy.keep hfr (by simpa using hNb)⟩
  · have hif : (fun k => if k = i then some y else f k) j = f j := if_neg e
    rw [hif]
    have hne : (Lit.int .i64 j) ≠ .int .i64 i := by simpa using e
    have h3 := (hf j hj).keep hfr (by simpa using hNb)
    revert h3
    cases f j with
    | none => intro h3; unfold HoldsTy at h3 ⊢; simp only at h3 ⊢; rw [has_put_other hne]; exact h3
    | some u =>
      rintro ⟨h4, ds, h5, h6⟩
      exact ⟨by rw [has_put_other hne]; exact h4, ds, fun z => by rw [atKey_put_other hne]; exact h5 z, h6⟩
end
end Go.Proofs.Ytkhbgdhgjbnhpaa
