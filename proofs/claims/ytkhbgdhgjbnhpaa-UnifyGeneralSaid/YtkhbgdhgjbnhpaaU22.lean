/-
  Maps from numbers to numbers, and lists of types in a block of their own.
-/
import Derived.Test.YtkhbgdhgjbnhpaaU21
import Derived.Maps.OwnSet
import Derived.Maps.Views
set_option linter.unusedVariables false
set_option linter.unusedSimpArgs false
set_option linter.unusedSectionVars false
namespace Go.Proofs.Ytkhbgdhgjbnhpaa
open Go.RowKit Go.Lib Go.Maps
open Un (kd nm ar size sizes unsolved)

theorem keyed_int : Keyed Try.prog 3 := int_keyed Try.underlying3
theorem zero_int (w : World) : (zeroValue 3).run Try.prog w = .ok (.int .i64 0) w := by kernel_rfl
/-- a map from numbers to numbers of at most n entries -/
def MapII (w : World) (m n : Nat) (f : Int → Option Int) : Prop :=
  ∃ D : DataW Unit, w.ownsMap Try.prog 3 (plainElem Try.prog 3) m n D ∧
    ∀ i : Int, (Lit.int .i64 i).wf = true → Maps.has D (.int .i64 i) = (f i).isSome ∧ D.atKey (.int .i64 i) (.lit (.int .i64 0)) = .lit (.int .i64 ((f i).getD 0))
theorem MapII.made (w : World) : MapII (w.alloc (.map #[] 0)) w.heap.size 0 (fun _ => none) :=
  ⟨_, World.ownsMap_made _ _ _ _, fun i _ => ⟨rfl, rfl⟩⟩
theorem MapII.lt {w : World} {m n : Nat} {f : Int → Option Int} (h : MapII w m n f) : m < w.heap.size := by obtain ⟨_, h, _⟩ := h; exact h.lt
theorem MapII.stay {w w' : World} {m n : Nat} {f : Int → Option Int} (h : MapII w m n f) (hf : w'.heap[m]? = w.heap[m]?) : MapII w' m n f := by
  obtain ⟨D, ⟨es, clock, hb, r⟩, hD⟩ := h
  exact ⟨D, ⟨es, clock, hf.trans hb, r⟩, hD⟩
theorem MapII.keep {w w' : World} {m n : Nat} {f : Int → Option Int} (h : MapII w m n f) {X : List Nat} (hf : Fr X w w') (hm : m ∉ X) : MapII w' m n f := h.stay (hf.block m h.lt hm)
theorem MapII.mono {w : World} {m n n' : Nat} {f : Int → Option Int} (h : MapII w m n f) (hn : n ≤ n') : MapII w m n' f := by
  obtain ⟨D, h, hD⟩ := h
  exact ⟨D, h.mono hn, hD⟩
section
variable (w : World) {ops : Array Oper} {rest : List Oper} {o : Oper} {a : Act} {Q : Exit → Act → World → Prop}
/-- v, ok := m[i] -/
theorem wpList_look_ii (hg : o.guard = none) (m x : Operand) (t : TypeId) (hop : o.op = Op.lookup t m x true) (ht : Try.prog.underlying t = some (.map 3 3)) (b n : Nat) (f : Int → Option Int)
    (hm : a.eval m = .map (some b)) (hown : MapII w b n f) (i : Int) (hx : a.eval x = .int .i64 i) (hi : (Lit.int .i64 i).wf = true)
    (hK : wpList Try.prog ops Q rest (a.put o.dst (.tuple #[.int .i64 ((f i).getD 0), .bool (f i).isSome])) w) : wpList Try.prog ops Q (o :: rest) a w := by
  obtain ⟨D, hD, hf⟩ := hown
  obtain ⟨h1, h2⟩ := hf i hi
  refine wpList_lookup_own_ok_int w hg m x t hop _ _ .i64 keyed_int ht Try.underlying3 (zero_int w) b n D hm hD _ _ hx (keyOf_int_mk Try.underlying3 hi) (fun c hc _ => ?_)
  rw [h2] at hc
  simp only [DataW.lit.injEq, Lit.int.injEq, true_and] at hc
  rw [h1, ← hc]
  exact hK
/-- v := m[i] -/
theorem wpList_look1_ii (hg : o.guard = none) (m x : Operand) (t : TypeId) (hop : o.op = Op.lookup t m x false) (ht : Try.prog.underlying t = some (.map 3 3)) (b n : Nat) (f : Int → Option Int)
    (hm : a.eval m = .map (some b)) (hown : MapII w b n f) (i : Int) (hx : a.eval x = .int .i64 i) (hi : (Lit.int .i64 i).wf = true)
    (hK : wpList Try.prog ops Q rest (a.put o.dst (.int .i64 ((f i).getD 0))) w) : wpList Try.prog ops Q (o :: rest) a w := by
  obtain ⟨D, hD, hf⟩ := hown
  obtain ⟨h1, h2⟩ := hf i hi
  refine wpList_lookup_own_int w hg m x t hop _ _ .i64 keyed_int ht Try.underlying3 (zero_int w) b n D hm hD _ _ hx (keyOf_int_mk Try.underlying3 hi) (fun c hc _ => ?_)
  rw [h2] at hc
  simp only [DataW.lit.injEq, Lit.int.injEq, true_and] at hc
  rw [← hc]
  exact hK
/-- m[i] = v -/
theorem wpList_put_ii (hg : o.guard = none) (m x v : Operand) (t : TypeId) (hop : o.op = Op.mapUpdate t m x v) (ht : Try.prog.underlying t = some (.map 3 3)) (b n : Nat) (f : Int → Option Int)
    (hm : a.eval m = .map (some b)) (hown : MapII w b n f) (hn : n < 9223372036854775807) (i y : Int) (hx : a.eval x = .int .i64 i) (hv : a.eval v = .int .i64 y) (hi : (Lit.int .i64 i).wf = true) (hy : (Lit.int .i64 y).wf = true)
    (hK : ∀ w', MapII w' b (n + 1) (fun j => if j = i then some y else f j) → Fr [b] w w' → wpList Try.prog ops Q rest (a.put o.dst undef) w') : wpList Try.prog ops Q (o :: rest) a w := by
  obtain ⟨D, hD, hf⟩ := hown
  have hik : WideAt.IsKeyLit (.int .i64 i) := trivial
  refine wpList_mapUpdate_own w hg m x v t hop _ _ keyed_int ht _ b n D hm hD (by unfold maxLen; omega) _ _ _ hx hv (keyOf_int_mk Try.underlying3 hi) (.lit (.int .i64 y)) [] (plainElem_int Try.underlying3 hy) (fun w' h1 h2 => hK w' ⟨_, h1, fun j hj => ?_⟩ ⟨h2.os, h2.tape, h2.output, h2.size, fun k hk hx => h2.block k hk (fun e => hx (by simp at e; simp [e]))⟩)
  by_cases e : j = i
  · subst e
    have hif : (fun k => if k = j then some y else f k) j = some y := if_pos rfl
    rw [hif]
    exact ⟨has_put_same hD.isMap hik _, atKey_put_same hD.isMap hik _ _⟩
  · have hif : (fun k => if k = i then some y else f k) j = f j := if_neg e
    rw [hif]
    have hne : (Lit.int .i64 j) ≠ .int .i64 i := by simpa using e
    rw [has_put_other hne, atKey_put_other hne]
    exact hf j hj
end
/-- types in a block of their own; what they lead to is of some kind -/
def ArrV (w : World) (N : Nat → Prop) (e : Nat) (l : List Ty) : Prop := ∃ cs : Array Value, Blk w e 24 cs ∧ InN w N (rowsQ qTy l) cs.toList
theorem inn_zeros (w : World) (N : Nat → Prop) : ∀ n, InN w N (rowsQ qTy (List.replicate n Un.zero)) ((List.range (n * 3)).map fun j => (#[Value.int .i64 0, .int .i64 0, .slice none 0 0][j % 3]!))
  | 0 => by simp [rowsQ]; exact InN.mk_nil _ _
  | n + 1 => by
    rw [List.replicate_succ', rowsQ_snoc, Nat.succ_mul, List.range_add, List.map_append]
    refine InN.app (inn_zeros w N n) ?_
    have : ((List.range 3).map fun x => n * 3 + x).map (fun j => (#[Value.int .i64 0, .int .i64 0, .slice none 0 0][j % 3]!)) = [.int .i64 0, .int .i64 0, .slice none 0 0] := by
      rw [show List.range 3 = [0, 1, 2] from rfl]
      simp [Nat.add_mod]
    rw [this]
    exact TyV.mk (TysV.nil none 0)
theorem ArrV.made (w : World) (N : Nat → Prop) (n : Nat) : ArrV (w.alloc (.cells (madeCells #[.int .i64 0, .int .i64 0, .slice none 0 0] (n * 3)) 24)) N w.heap.size (List.replicate n Un.zero) := by
  refine ⟨_, Blk.new _ _ _, ?_⟩
  have := inn_zeros (w.alloc (.cells (madeCells #[.int .i64 0, .int .i64 0, .slice none 0 0] (n * 3)) 24)) N n
  simpa [madeCells, Array.toList_map] using this
theorem ArrV.lt {w : World} {N : Nat → Prop} {e : Nat} {l : List Ty} (h : ArrV w N e l) : e < w.heap.size := by obtain ⟨_, h, _⟩ := h; exact h.lt
theorem ArrV.stay {w w' : World} {N : Nat → Prop} {e : Nat} {l : List Ty} (h : ArrV w N e l) (hs : w.heap.size ≤ w'.heap.size) (he : w'.heap[e]? = w.heap[e]?) (hN : ∀ k, k < w.heap.size → N k → w'.heap[k]? = w.heap[k]?) : ArrV w' N e l := by
  obtain ⟨cs, h1, h2⟩ := h
  exact ⟨cs, he.trans h1, h2.mono (fun k hk hl => ⟨hk, Nat.lt_of_lt_of_le hl hs, hN k hl hk⟩)⟩
theorem ArrV.keep {w w' : World} {N : Nat → Prop} {e : Nat} {l : List Ty} (h : ArrV w N e l) {X : List Nat} (hf : Fr X w w') (he : e ∉ X) (hN : ∀ k ∈ X, ¬ N k) : ArrV w' N e l := h.stay hf.size (hf.block e h.lt he) (fun k hk hn => hf.block k hk (fun hx => hN k hx hn))
theorem ArrV.keep0 {w w' : World} {N : Nat → Prop} {e : Nat} {l : List Ty} (h : ArrV w N e l) (hf : Fr [] w w') : ArrV w' N e l := h.keep hf (by simp) (by simp)
theorem ArrV.tysV {w : World} {N N' : Nat → Prop} {e : Nat} {l : List Ty} (h : ArrV w N e l) (hl : l.length ≤ 1000000) (hN : ∀ k, k < w.heap.size → N k → N' k) (he : N' e) : TysV w N' l (.slice (some ⟨e, 0, none⟩) l.length l.length) := by
  obtain ⟨cs, h1, h2⟩ := h
  have hl2 : cs.toList.length = l.length * 3 := by rw [h2.len, rowsQ_ln ln_qTy]
  unfold TysV
  rw [InN]
  refine ⟨_, [], rfl, ?_, by rw [InN]⟩
  by_cases h0 : l.length = 0
  · obtain rfl := List.eq_nil_of_length_eq_zero h0
    exact .inl ⟨_, _, rfl, rfl, InN.mk_nil _ _⟩
  · exact .inr ⟨e, 0, l.length, cs.toList, rfl, by omega, Nat.le_refl _, by unfold maxLen; omega, he, h1.lt, hl2, fun j hj => by rw [Nat.zero_add, h1.cell]; simp, h2.weak hN⟩
/-- an element in memory -/
theorem ArrV.el {w : World} {N : Nat → Prop} {e : Nat} {l : List Ty} (h : ArrV w N e l) {i : Nat} {t : Ty} (ht : l[i]? = some t) :
    ∃ p c, TyV w N t [.int .i64 (kd t), .int .i64 (nm t), .slice p (ar t).length c] ∧ w.cell? ⟨e, i * 3, none⟩ = some (.int .i64 (kd t)) ∧ w.cell? ⟨e, i * 3 + 1, none⟩ = some (.int .i64 (nm t)) ∧ w.cell? ⟨e, i * 3 + 2, none⟩ = some (.slice p (ar t).length c) ∧ ∀ o, w.frozen? ⟨e, o, none⟩ = false := by
  obtain ⟨cs, h1, h2⟩ := h
  obtain ⟨ds, k1, k2, k3⟩ := InN.get (f := qTy) (s := 3) ln_qTy l _ i t h2 ht
  obtain ⟨p, c, rfl, _⟩ := TyV.shape k1
  have hcl : ∀ j, j < 3 → w.cell? ⟨e, i * 3 + j, none⟩ = [Value.int .i64 (kd t), .int .i64 (nm t), .slice p (ar t).length c][j]? := fun j hj => by rw [h1.cell, ← k3 j hj]; simp
  exact ⟨p, c, k1, hcl 0 (by omega), hcl 1 (by omega), hcl 2 (by omega), h1.frozen⟩
theorem inn_setTy {w : World} {N : Nat → Prop} {t : Ty} {d0 d1 d2 : Value} (ht : TyV w N t [d0, d1, d2]) : ∀ {l : List Ty} {xs : List Value} {i : Nat}, InN w N (rowsQ qTy l) xs → i < l.length →
    InN w N (rowsQ qTy (l.set i t)) (((xs.set (i * 3) d0).set (i * 3 + 1) d1).set (i * 3 + 2) d2)
  | [], _, _, _, hi => by simp at hi
  | a :: r, xs, 0, h, hi => by
    rw [rowsQ] at h
    obtain ⟨c, d, rfl, h1, h2⟩ := h.split
    obtain ⟨p, cc, rfl, _⟩ := TyV.shape h1
    rw [List.set_cons_zero, rowsQ]
    exact InN.app (cs := [d0, d1, d2]) ht h2
  | a :: r, xs, i + 1, h, hi => by
    rw [rowsQ] at h
    obtain ⟨c, d, rfl, h1, h2⟩ := h.split
    have hl : c.length = 3 := by rw [h1.len, ln_qTy]
    have := inn_setTy ht h2 (i := i) (by simpa using hi)
    rw [List.set_cons_succ, rowsQ, List.set_append_right _ _ (by omega), List.set_append_right _ _ (by omega), List.set_append_right _ _ (by omega), hl, show (i + 1) * 3 - 3 = i * 3 by omega, show (i + 1) * 3 + 1 - 3 = i * 3 + 1 by omega, show (i + 1) * 3 + 2 - 3 = i * 3 + 2 by omega]
    exact InN.app h1 this
/-- an element is set -/
theorem ArrV.set {w : World} {N : Nat → Prop} {e : Nat} {l : List Ty} (h : ArrV w N e l) {i : Nat} (hi : i < l.length) {t : Ty} {d0 d1 d2 : Value} (ht : TyV w N t [d0, d1, d2]) (he : ¬ N e) :
    ArrV (((w.setCell ⟨e, i * 3, none⟩ d0).setCell ⟨e, i * 3 + 1, none⟩ d1).setCell ⟨e, i * 3 + 2, none⟩ d2) N e (l.set i t) := by
  obtain ⟨cs, h1, h2⟩ := h
  refine ⟨((cs.setIfInBounds (i * 3) d0).setIfInBounds (i * 3 + 1) d1).setIfInBounds (i * 3 + 2) d2, ((h1.set _ _).set _ _).set _ _, ?_⟩
  rw [Array.toList_setIfInBounds, Array.toList_setIfInBounds, Array.toList_setIfInBounds]
  refine (inn_setTy ht h2 hi).mono (fun k hk hl => ⟨hk, by simpa [World.setCell] using hl, ?_⟩)
  have hne : k ≠ e := fun h => he (h ▸ hk)
  rw [Below.heap_setCell _ _ _ _ hne, Below.heap_setCell _ _ _ _ hne, Below.heap_setCell _ _ _ _ hne]
theorem Fr.cells3 (w : World) (e i : Nat) (d0 d1 d2 : Value) : Fr [e] w (((w.setCell ⟨e, i, none⟩ d0).setCell ⟨e, i + 1, none⟩ d1).setCell ⟨e, i + 2, none⟩ d2) :=
  (((Fr.refl [e] w).setCell (.inl (by simp)) _).setCell (.inl (by simp)) _).setCell (.inl (by simp)) _
/-- new blocks are turned beside -/
theorem SolFr.new {b : Nat} {tv : Value} {w wr w' : World} (h : SolFr b tv tv w wr) {X : List Nat} (hf : Fr X wr w') (hX : ∀ k ∈ X, w.heap.size ≤ k) : SolFr b tv tv w w' :=
  ⟨Nat.le_trans h.size hf.size, hf.os.trans h.os, hf.tape.trans h.tape, hf.output.trans h.output, fun k hk hb ho => (hf.block k (Nat.lt_of_lt_of_le hk h.size) (fun hx => by have := hX k hx; omega)).trans (h.block k hk hb ho), fun _ h => .inl h⟩
end Go.Proofs.Ytkhbgdhgjbnhpaa
