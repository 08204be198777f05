/-
  A type that comes in has parameters with ids of 64 bits.
-/
import Derived.Test.YtkhbgdhgjbnhpaaU45
import Derived.Test.YtkhbgdhgjbnhpaaU31
set_option linter.unusedVariables false
set_option linter.unusedSimpArgs false
set_option linter.unusedSectionVars false
namespace Go.Proofs.Ytkhbgdhgjbnhpaa
open Go.RowKit
open Un (kd nm ar)

def WfP (t : Ty) : Prop := ∀ i ∈ Un.pars t, (Lit.int .i64 i).wf = true
theorem parss_mem {i : Int} : ∀ {l : List Ty}, i ∈ Un.parss l → ∃ a ∈ l, i ∈ Un.pars a
  | [], h => by rw [Un.parss] at h; exact (List.not_mem_nil h).elim
  | a :: r, h => by
    rw [Un.parss, List.mem_append] at h
    rcases h with h | h
    · exact ⟨a, by simp, h⟩
    · obtain ⟨b, hb, k⟩ := parss_mem h
      exact ⟨b, by simp [hb], k⟩
theorem WfP.mk {k i : Int} {l : List Ty} (hi : (Lit.int .i64 i).wf = true) (hl : ∀ a ∈ l, WfP a) : WfP (.mk k i l) := by
  intro j hj
  rw [Un.pars] at hj
  split at hj
  · rw [List.mem_singleton.1 hj]; exact hi
  · obtain ⟨a, ha, h⟩ := parss_mem hj
    exact hl a ha j h
section
variable {H : Type} {enc : TypeId × Value → H} {P : Program} {w : World} {base : Nat} {sp : Nat → Bool} {held : Bool}
/-- a slice whose elements read as data reads as their list -/
theorem sl_ofP {α : Type} {f : α → Q} (G : α → Prop) {E s : Nat} {t e : TypeId} (hs0 : 0 < s) (ht : P.underlying t = some (.slice e)) (hs : P.cellsOf e = s) {fuel : Nat} {cs : List Value} {x : DataW H × List MemPlace}
    (h : DataW.trod enc P w base sp held fuel t cs = some x) (ih : ∀ n, n < fuel → ∀ c y, DataW.trod enc P w base sp held n e c = some y → ∃ a, G a ∧ InN w (fun _ => True) (f a) c) :
    ∃ l : List α, (∀ a ∈ l, G a) ∧ InN w (fun _ => True) (.sl E s l.length (rowsQ f l) .nil) cs := by
  rcases DataW.trod_slice ht h with ⟨rfl, _⟩ | ⟨a, len, cap, elems, rest, n, rfl, rfl, _, _, hl, hm, hlen, hel, _⟩
  · exact ⟨[], fun _ h => (List.not_mem_nil h).elim, InN.slNil _ _⟩
  · rw [hs] at hel
    have key : ∀ k, k ≤ len → ∃ (l : List α) (xs : List Value), (∀ a ∈ l, G a) ∧ l.length = k ∧ xs.length = k * s ∧ (∀ j, j < k * s → w.cell? (a.add j) = xs[j]?) ∧ InN w (fun _ => True) (rowsQ f l) xs := by
      intro k
      induction k with
      | zero => intro _; exact ⟨[], [], fun _ h => (List.not_mem_nil h).elim, rfl, by simp, fun j hj => by simp at hj, by rw [rowsQ]; exact InN.mk_nil _ _⟩
      | succ k ihk =>
        intro hk
        obtain ⟨l, xs, hG, h1, h2, h3, h4⟩ := ihk (by omega)
        have hE := hel k (by omega)
        have hsome : elems[k]? = some (elems[k]'(by omega)) := List.getElem?_eq_getElem _
        rw [hsome] at hE
        simp only [Option.bind_eq_some_iff] at hE
        obtain ⟨c, hc, hy⟩ := hE
        obtain ⟨hc1, hc2⟩ := cells_ofN hc
        obtain ⟨b, hGb, hb⟩ := ih n (by omega) c _ hy
        refine ⟨l ++ [b], xs ++ c, fun a ha => ?_, by simp [h1], by simp [h2, hc1, Nat.succ_mul], fun j hj => ?_, by rw [rowsQ_snoc]; exact InN.app h4 hb⟩
        · rcases List.mem_append.1 ha with ha | ha
          · exact hG a ha
          · rw [List.mem_singleton.1 ha]; exact hGb
        by_cases hj' : j < k * s
        · rw [h3 j hj', List.getElem?_append_left (by omega)]
        · rw [Nat.succ_mul] at hj
          rw [List.getElem?_append_right (by omega), h2]
          have := hc2 (j - k * s) (by omega)
          rw [add_addN] at this
          rw [← this]
          congr 2
          omega
    obtain ⟨l, xs, hG, h1, h2, h3, h4⟩ := key len (Nat.le_refl _)
    refine ⟨l, hG, ?_⟩
    subst h1
    rcases Nat.eq_zero_or_pos l.length with h0 | h0
    · have := List.eq_nil_of_length_eq_zero h0
      subst this
      exact InN.slNil _ _
    · have hps : 0 < l.length * s := Nat.mul_pos h0 hs0
      have hc0 := h3 0 hps
      rw [List.getElem?_eq_getElem (by omega)] at hc0
      obtain ⟨hsp, hbl⟩ := spot_of_cell hc0
      obtain ⟨b, o, q⟩ := a
      have e0 : (⟨b, o, q⟩ : Addr).add 0 = ⟨b, o, q⟩ := by unfold Addr.add; simp
      rw [e0] at hsp hbl
      simp only at hsp hbl
      subst hsp
      rw [InN]
      refine ⟨_, _, rfl, .inr ⟨b, o, cap, xs, rfl, h0, hl, hm, trivial, hbl, h2, fun j hj => ?_, h4⟩, InN.mk_nil _ _⟩
      have h5 := h3 j hj
      have e : (⟨b, o, none⟩ : Addr).add j = ⟨b, o + j, none⟩ := by
        unfold Addr.add
        split
        · rename_i h; subst h; rfl
        · rfl
      rwa [e] at h5
set_option maxRecDepth 100000 in
set_option maxHeartbeats 1600000 in
theorem ty_ofP : ∀ (M fuel : Nat), fuel < M → ∀ (cs : List Value) (y : DataW H × List MemPlace), DataW.trod enc Try.prog w base sp held fuel 24 cs = some y → ∃ t : Ty, WfP t ∧ TyV w (fun _ => True) t cs := by
  intro M
  induction M with
  | zero => intro fuel hN; omega
  | succ M ih =>
    intro fuel hN cs y h
    obtain ⟨xs, n, rfl, _, hl, hlen, hf⟩ := DataW.trod_struct Try.underlying24 h
    match xs, hlen with
    | [y0, y1, y2], _ =>
      have h0 : DataW.trod enc Try.prog w base sp held n 3 ((cs.drop 0).take (Try.prog.cellsOf 3)) = some y0 := hf 0 _ rfl
      rw [cells_intN] at h0
      obtain ⟨k, k0, _⟩ := int_ofN Try.underlying3 h0
      have h1 : DataW.trod enc Try.prog w base sp held n 3 ((cs.drop 1).take (Try.prog.cellsOf 3)) = some y1 := hf 1 _ rfl
      rw [cells_intN] at h1
      obtain ⟨i, k1, hwi⟩ := int_ofN Try.underlying3 h1
      have h2 : DataW.trod enc Try.prog w base sp held n 22 ((cs.drop 2).take (Try.prog.cellsOf 22)) = some y2 := hf 2 _ rfl
      rw [cells_tysN] at h2
      obtain ⟨l, hG, k2⟩ := sl_ofP WfP (f := qTy) (E := 24) (by decide) Try.underlying22 cells_tyN h2 (fun m hm c y hy => ih m (by omega) c y hy)
      have hl3 : cs.length = 3 := by rw [hl]; exact cells_tyN
      match cs, hl3 with
      | [x0, x1, x2], _ =>
        simp at k0 k1
        subst k0 k1
        exact ⟨.mk k i l, WfP.mk hwi hG, TyV.mk (by unfold TysV; simpa using k2)⟩
end
set_option maxRecDepth 100000 in
theorem ty_argP {H : Type} {enc : TypeId × Value → H} {W : World} {b0 : Nat} {v : Value} {d : DataW H} {ps : List MemPlace} (hv : Value.okWide Try.prog W .any b0 24 v) (h : DataW.Trod enc Try.prog W 0 (fun _ => true) true 24 v d ps) :
    ∃ (t : Ty) (cs : List Value), WfP t ∧ v = .agg cs.toArray ∧ TyV W (fun _ => True) t cs := by
  obtain ⟨cs, rfl, _⟩ := Go.WideShapes.okWide_struct Try.underlying24 hv
  obtain ⟨fuel, hf⟩ := h
  obtain ⟨t, hw, ht⟩ := ty_ofP (fuel + 1) fuel (by omega) _ _ hf
  exact ⟨t, cs.toList, hw, by simp, by simpa [Value.cells] using ht⟩
end Go.Proofs.Ytkhbgdhgjbnhpaa
