/-
  Arguments of the laws of layer 5 read as data: types, lists of them, programs.
-/
import Derived.Test.YtkhbgdhgjbnhpaaRows
import Derived.Test.YtkhbgdhgjbnhpaaU14
import Derived.ProofKit
import Derived.OpenShut
import Derived.ChangeArms
import Derived.ChangeSlices
import Derived.Carry
set_option linter.unusedVariables false
set_option linter.unusedSimpArgs false
set_option linter.unusedSectionVars false
namespace Go.Proofs.Ytkhbgdhgjbnhpaa
open Go.RowKit
open Un (kd nm ar)

theorem InN.step {w : World} {N : Nat → Prop} {q R : Q} {cs : List Value} {o c : Nat} (h : InN w N q ((cs.drop o).take c)) (hR : InN w N R (cs.drop (o + c))) : InN w N (q.app R) (cs.drop o) := by
  have := InN.app h hR
  rwa [← List.drop_drop, List.take_append_drop] at this
theorem InN.last {w : World} {N : Nat → Prop} {cs : List Value} {o : Nat} (hl : cs.length = o) : InN w N .nil (cs.drop o) := by
  rw [List.drop_eq_nil_of_le (by omega)]
  exact InN.mk_nil _ _
section
variable {H : Type} {enc : TypeId × Value → H} {P : Program} {w : World} {base : Nat} {sp : Nat → Bool} {held : Bool}
theorem cells_ofN {a : Addr} {s : Nat} {c : List Value} (h : w.cells? base a s = some c) : c.length = s ∧ ∀ j, j < s → w.cell? (a.add j) = c[j]? := by
  unfold World.cells? at h
  split at h
  · have key : ∀ (l : List Nat) (c : List Value), l.mapM (fun i => w.cell? (a.add i)) = some c → c.length = l.length ∧ ∀ j, j < l.length → (l[j]?).bind (fun i => w.cell? (a.add i)) = c[j]? := by
      intro l
      induction l with
      | nil => intro c h; simp at h; subst h; simp
      | cons x l ih =>
        intro c h
        rw [List.mapM_cons] at h
        cases hx : w.cell? (a.add x) with
        | none => simp [hx] at h
        | some v =>
          cases hl : l.mapM (fun i => w.cell? (a.add i)) with
          | none => simp [hx, hl] at h
          | some r =>
            simp [hx, hl] at h
            subst h
            obtain ⟨h1, h2⟩ := ih r hl
            refine ⟨by simp [h1], fun j hj => ?_⟩
            cases j with
            | zero => simp [hx]
            | succ j => simpa using h2 j (by simpa using hj)
    obtain ⟨h1, h2⟩ := key _ _ h
    simp only [List.length_range] at h1 h2
    refine ⟨h1, fun j hj => ?_⟩
    have := h2 j hj
    rwa [List.getElem?_range hj] at this
  · cases h
theorem add_addN (a : Addr) (m n : Nat) : (a.add m).add n = a.add (m + n) := by
  unfold Addr.add
  by_cases h1 : m = 0
  · subst h1; simp
  · by_cases h2 : n = 0
    · subst h2; simp [h1]
    · rw [if_neg h1, if_neg h2, if_neg (by omega)]
      simp [Nat.add_assoc]
theorem spot_of_cell {a : Addr} {v : Value} (h : w.cell? a = some v) : a.spot = none ∧ a.block < w.heap.size := by
  unfold World.cell? at h
  split at h
  · rename_i c _ _ hb
    split at h
    · cases h
    · rename_i hs
      exact ⟨by simpa using hs, (Array.getElem?_eq_some_iff.1 hb).1⟩
  · cases h
/-- a slice whose elements read as data reads as their list -/
theorem sl_ofN {α : Type} {f : α → Q} {E s : Nat} {t e : TypeId} (hs0 : 0 < s) (ht : P.underlying t = some (.slice e)) (hs : P.cellsOf e = s) {fuel : Nat} {cs : List Value} {x : DataW H × List MemPlace}
    (h : DataW.trod enc P w base sp held fuel t cs = some x) (ih : ∀ n, n < fuel → ∀ c y, DataW.trod enc P w base sp held n e c = some y → ∃ a, InN w (fun _ => True) (f a) c) :
    ∃ l : List α, InN w (fun _ => True) (.sl E s l.length (rowsQ f l) .nil) cs := by
  rcases DataW.trod_slice ht h with ⟨rfl, _⟩ | ⟨a, len, cap, elems, rest, n, rfl, rfl, _, _, hl, hm, hlen, hel, _⟩
  · exact ⟨[], InN.slNil _ _⟩
  · rw [hs] at hel
    have key : ∀ k, k ≤ len → ∃ (l : List α) (xs : List Value), l.length = k ∧ xs.length = k * s ∧ (∀ j, j < k * s → w.cell? (a.add j) = xs[j]?) ∧ InN w (fun _ => True) (rowsQ f l) xs := by
      intro k
      induction k with
      | zero => intro _; exact ⟨[], [], rfl, by simp, fun j hj => by simp at hj, by rw [rowsQ]; exact InN.mk_nil _ _⟩
      | succ k ihk =>
        intro hk
        obtain ⟨l, xs, h1, h2, h3, h4⟩ := ihk (by omega)
        have hE := hel k (by omega)
        have hsome : elems[k]? = some (elems[k]'(by omega)) := List.getElem?_eq_getElem _
        rw [hsome] at hE
        simp only [Option.bind_eq_some_iff] at hE
        obtain ⟨c, hc, hy⟩ := hE
        obtain ⟨hc1, hc2⟩ := cells_ofN hc
        obtain ⟨b, hb⟩ := ih n (by omega) c _ hy
        refine ⟨l ++ [b], xs ++ c, by simp [h1], by simp [h2, hc1, Nat.succ_mul], fun j hj => ?_, by rw [rowsQ_snoc]; exact InN.app h4 hb⟩
        by_cases hj' : j < k * s
        · rw [h3 j hj', List.getElem?_append_left (by omega)]
        · rw [Nat.succ_mul] at hj
          rw [List.getElem?_append_right (by omega), h2]
          have := hc2 (j - k * s) (by omega)
          rw [add_addN] at this
          rw [← this]
          congr 2
          omega
    obtain ⟨l, xs, h1, h2, h3, h4⟩ := key len (Nat.le_refl _)
    refine ⟨l, ?_⟩
    subst h1
    rcases Nat.eq_zero_or_pos l.length with h0 | h0
    · have := List.eq_nil_of_length_eq_zero h0
      subst this
      exact InN.slNil _ _
    · have hps : 0 < l.length * s := Nat.mul_pos h0 hs0
      have hc0 := h3 0 hps
      rw [List.getElem?_eq_getElem (by omega)] at hc0
      obtain ⟨hsp, hbl⟩ := spot_of_cell hc0
      obtain ⟨b, o, q⟩ := a
      have e0 : (⟨b, o, q⟩ : Addr).add 0 = ⟨b, o, q⟩ := by unfold Addr.add; simp
      rw [e0] at hsp hbl
      simp only at hsp hbl
      subst hsp
      rw [InN]
      refine ⟨_, _, rfl, .inr ⟨b, o, cap, xs, rfl, h0, hl, hm, trivial, hbl, h2, fun j hj => ?_, h4⟩, InN.mk_nil _ _⟩
      have h5 := h3 j hj
      have e : (⟨b, o, none⟩ : Addr).add j = ⟨b, o + j, none⟩ := by
        unfold Addr.add
        split
        · rename_i h; subst h; rfl
        · rfl
      rwa [e] at h5
theorem int_ofN {t : TypeId} (ht : P.underlying t = some (.int .i64)) {fuel : Nat} {cs : List Value} {x : DataW H × List MemPlace} (h : DataW.trod enc P w base sp held fuel t cs = some x) : ∃ n : Int, cs = [.int .i64 n] ∧ (Lit.int .i64 n).wf = true := by
  obtain ⟨n, rfl, _, hw⟩ := DataW.trod_int ht h
  exact ⟨n, rfl, hw⟩
/-- of a slice its shape alone -/
theorem slice_ofN {t e : TypeId} (ht : P.underlying t = some (.slice e)) {fuel : Nat} {cs : List Value} {x : DataW H × List MemPlace} (h : DataW.trod enc P w base sp held fuel t cs = some x) : ∃ p n c, cs = [.slice p n c] := by
  rcases DataW.trod_slice ht h with ⟨rfl, _⟩ | ⟨a, len, cap, elems, rest, n, rfl, rfl, _⟩
  · exact ⟨_, _, _, rfl⟩
  · exact ⟨_, _, _, rfl⟩
theorem cells_intN : Try.prog.cellsOf 3 = 1 := by kernel_rfl
theorem cells_tysN : Try.prog.cellsOf 22 = 1 := by kernel_rfl
theorem cells_tyN : Try.prog.cellsOf 24 = 3 := by kernel_rfl
theorem cells_dataN : Try.prog.cellsOf 61 = 5 := by kernel_rfl
theorem cells_progN : Try.prog.cellsOf 32 = 8 := by kernel_rfl
set_option maxRecDepth 100000 in
set_option maxHeartbeats 1600000 in
theorem ty_ofN : ∀ (M fuel : Nat), fuel < M → ∀ (cs : List Value) (y : DataW H × List MemPlace), DataW.trod enc Try.prog w base sp held fuel 24 cs = some y → ∃ t : Ty, TyV w (fun _ => True) t cs := by
  intro M
  induction M with
  | zero => intro fuel hN; omega
  | succ M ih =>
    intro fuel hN cs y h
    obtain ⟨xs, n, rfl, _, hl, hlen, hf⟩ := DataW.trod_struct Try.underlying24 h
    match xs, hlen with
    | [y0, y1, y2], _ =>
      have h0 : DataW.trod enc Try.prog w base sp held n 3 ((cs.drop 0).take (Try.prog.cellsOf 3)) = some y0 := hf 0 _ rfl
      rw [cells_intN] at h0
      obtain ⟨k, k0, _⟩ := int_ofN Try.underlying3 h0
      have h1 : DataW.trod enc Try.prog w base sp held n 3 ((cs.drop 1).take (Try.prog.cellsOf 3)) = some y1 := hf 1 _ rfl
      rw [cells_intN] at h1
      obtain ⟨i, k1, _⟩ := int_ofN Try.underlying3 h1
      have h2 : DataW.trod enc Try.prog w base sp held n 22 ((cs.drop 2).take (Try.prog.cellsOf 22)) = some y2 := hf 2 _ rfl
      rw [cells_tysN] at h2
      obtain ⟨l, k2⟩ := sl_ofN (f := qTy) (E := 24) (by decide) Try.underlying22 cells_tyN h2 (fun m hm c y hy => ih m (by omega) c y hy)
      have hl3 : cs.length = 3 := by rw [hl]; exact cells_tyN
      match cs, hl3 with
      | [x0, x1, x2], _ =>
        simp at k0 k1
        subst k0 k1
        exact ⟨.mk k i l, TyV.mk (by unfold TysV; simpa using k2)⟩
set_option maxRecDepth 100000 in
set_option maxHeartbeats 1600000 in
theorem tys_ofN {fuel : Nat} {cs : List Value} {y : DataW H × List MemPlace} (h : DataW.trod enc Try.prog w base sp held fuel 22 cs = some y) : ∃ (l : List Ty) (v : Value), cs = [v] ∧ TysV w (fun _ => True) l v := by
  obtain ⟨l, k⟩ := sl_ofN (f := qTy) (E := 24) (by decide) Try.underlying22 cells_tyN h (fun m hm c y hy => ty_ofN (m + 1) m (by omega) c y hy)
  obtain ⟨p, n, c, rfl⟩ := slice_ofN Try.underlying22 h
  exact ⟨l, _, rfl, k⟩
set_option maxRecDepth 100000 in
set_option maxHeartbeats 1600000 in
theorem data_ofN {fuel : Nat} {cs : List Value} {y : DataW H × List MemPlace} (h : DataW.trod enc Try.prog w base sp held fuel 61 cs = some y) : ∃ p : Int, InN w (fun _ => True) (qData p) cs := by
  obtain ⟨xs, n, rfl, _, hl, hlen, hf⟩ := DataW.trod_struct Try.underlying61 h
  have hl5 : cs.length = 5 := by rw [hl]; exact cells_dataN
  match xs, hlen, cs, hl5 with
  | [y0, y1, y2, y3, y4], _, [x0, x1, x2, x3, x4], _ =>
    have h0 : DataW.trod enc Try.prog w base sp held n 9 (([x0, x1, x2, x3, x4].drop 0).take (Try.prog.cellsOf 9)) = some y0 := hf 0 _ rfl
    have h1 : DataW.trod enc Try.prog w base sp held n 3 (([x0, x1, x2, x3, x4].drop 1).take (Try.prog.cellsOf 3)) = some y1 := hf 1 _ rfl
    have h2 : DataW.trod enc Try.prog w base sp held n 3 (([x0, x1, x2, x3, x4].drop 2).take (Try.prog.cellsOf 3)) = some y2 := hf 2 _ rfl
    have h3 : DataW.trod enc Try.prog w base sp held n 59 (([x0, x1, x2, x3, x4].drop 3).take (Try.prog.cellsOf 59)) = some y3 := hf 3 _ rfl
    have h4 : DataW.trod enc Try.prog w base sp held n 3 (([x0, x1, x2, x3, x4].drop 4).take (Try.prog.cellsOf 3)) = some y4 := hf 4 _ rfl
    rw [show Try.prog.cellsOf 9 = 1 by kernel_rfl] at h0
    rw [cells_intN] at h1 h2 h4
    rw [show Try.prog.cellsOf 59 = 1 by kernel_rfl] at h3
    obtain ⟨s, k0, _⟩ := DataW.trod_string Try.underlying9 h0
    obtain ⟨a, k1, _⟩ := int_ofN Try.underlying3 h1
    obtain ⟨p, k2, _⟩ := int_ofN Try.underlying3 h2
    obtain ⟨q, m, c, k3⟩ := slice_ofN Try.underlying59 h3
    obtain ⟨d, k4, _⟩ := int_ofN Try.underlying3 h4
    simp at k0 k1 k2 k3 k4
    subst k0 k1 k2 k3 k4
    refine ⟨p, ?_⟩
    unfold qData
    simp only [InN]
    exact ⟨_, _, rfl, rfl, _, _, rfl, rfl, _, rfl, _, _, rfl, rfl, _, _, rfl, rfl, rfl⟩
set_option maxRecDepth 100000 in
set_option maxHeartbeats 1600000 in
theorem prog_ofN {fuel : Nat} {cs : List Value} {y : DataW H × List MemPlace} (h : DataW.trod enc Try.prog w base sp held fuel 32 cs = some y) : ∃ ds : List Int, ProgV w (fun _ => True) ds cs := by
  obtain ⟨xs, n, rfl, _, hl, hlen, hf⟩ := DataW.trod_struct Try.underlying32 h
  have hl8 : cs.length = 8 := by rw [hl]; exact cells_progN
  match xs, hlen, cs, hl8 with
  | [y0, y1, y2, y3, y4, y5, y6, y7], _, [x0, x1, x2, x3, x4, x5, x6, x7], _ =>
    have h0 : DataW.trod enc Try.prog w base sp held n 25 (([x0, x1, x2, x3, x4, x5, x6, x7].drop 0).take (Try.prog.cellsOf 25)) = some y0 := hf 0 _ rfl
    have h1 : DataW.trod enc Try.prog w base sp held n 26 (([x0, x1, x2, x3, x4, x5, x6, x7].drop 1).take (Try.prog.cellsOf 26)) = some y1 := hf 1 _ rfl
    have h2 : DataW.trod enc Try.prog w base sp held n 27 (([x0, x1, x2, x3, x4, x5, x6, x7].drop 2).take (Try.prog.cellsOf 27)) = some y2 := hf 2 _ rfl
    have h3 : DataW.trod enc Try.prog w base sp held n 25 (([x0, x1, x2, x3, x4, x5, x6, x7].drop 3).take (Try.prog.cellsOf 25)) = some y3 := hf 3 _ rfl
    have h4 : DataW.trod enc Try.prog w base sp held n 28 (([x0, x1, x2, x3, x4, x5, x6, x7].drop 4).take (Try.prog.cellsOf 28)) = some y4 := hf 4 _ rfl
    have h5 : DataW.trod enc Try.prog w base sp held n 29 (([x0, x1, x2, x3, x4, x5, x6, x7].drop 5).take (Try.prog.cellsOf 29)) = some y5 := hf 5 _ rfl
    have h6 : DataW.trod enc Try.prog w base sp held n 30 (([x0, x1, x2, x3, x4, x5, x6, x7].drop 6).take (Try.prog.cellsOf 30)) = some y6 := hf 6 _ rfl
    have h7 : DataW.trod enc Try.prog w base sp held n 3 (([x0, x1, x2, x3, x4, x5, x6, x7].drop 7).take (Try.prog.cellsOf 3)) = some y7 := hf 7 _ rfl
    rw [show Try.prog.cellsOf 25 = 1 by kernel_rfl] at h0 h3
    rw [show Try.prog.cellsOf 26 = 1 by kernel_rfl] at h1
    rw [show Try.prog.cellsOf 27 = 1 by kernel_rfl] at h2
    rw [show Try.prog.cellsOf 28 = 1 by kernel_rfl] at h4
    rw [show Try.prog.cellsOf 29 = 1 by kernel_rfl] at h5
    rw [show Try.prog.cellsOf 30 = 1 by kernel_rfl] at h6
    rw [cells_intN] at h7
    obtain ⟨a0, b0, c0, k0⟩ := slice_ofN Try.underlying25 h0
    obtain ⟨a1, b1, c1, k1⟩ := slice_ofN Try.underlying26 h1
    obtain ⟨ds, kd2⟩ := sl_ofN (f := qData) (E := 61) (by decide) Try.underlying27 cells_dataN h2 (fun m hm c y hy => data_ofN hy)
    obtain ⟨a2, b2, c2, k2⟩ := slice_ofN Try.underlying27 h2
    obtain ⟨a3, b3, c3, k3⟩ := slice_ofN Try.underlying25 h3
    obtain ⟨a4, b4, c4, k4⟩ := slice_ofN Try.underlying28 h4
    obtain ⟨a5, b5, c5, k5⟩ := slice_ofN Try.underlying29 h5
    obtain ⟨a6, b6, c6, k6⟩ := slice_ofN Try.underlying30 h6
    obtain ⟨m, k7, _⟩ := int_ofN Try.underlying3 h7
    simp at k0 k1 k3 k4 k5 k6 k7
    subst k0 k1 k3 k4 k5 k6 k7
    exact ⟨ds, _, _, _, _, _, _, _, _, _, _, _, _, _, _, _, _, _, _, _, _, rfl, by unfold DatasV; simpa using kd2⟩
end
theorem ownK : ownKnob Try.prog.godebug = none := by kernel_rfl
theorem laidOutK : laidOutB Try.prog = true := by kernel_rfl
/-- an argument reads behind the call as before -/
theorem stays {H : Type} {enc : TypeId × Value → H} {t : TypeId} {W W' : World} {v : Value} {d : DataW H} {ps : List MemPlace} (hr : Try.prog.readableRec t = true) (hrow : t < Try.prog.types.size)
    (h : DataW.Trod enc Try.prog W 0 (fun _ => true) true t v d ps) (hb : Below W.heap.size W W') (hlt : ∀ x ∈ ps, x.block < W.heap.size) (sp : Nat → Bool) (hs : ∀ x ∈ ps, sp x.block = true) :
    DataW.Trod enc Try.prog W' 0 sp true t v d ps := WideElems.Trod_stays laidOutK hr hrow h (fun x hx => hb.same (hlt x hx)) hs
set_option maxRecDepth 100000 in
theorem ty_arg {H : Type} {enc : TypeId × Value → H} {W : World} {b0 : Nat} {v : Value} {d : DataW H} {ps : List MemPlace} (hv : Value.okWide Try.prog W .any b0 24 v) (h : DataW.Trod enc Try.prog W 0 (fun _ => true) true 24 v d ps) :
    ∃ (t : Ty) (cs : List Value), v = .agg cs.toArray ∧ TyV W (fun _ => True) t cs := by
  obtain ⟨cs, rfl, _⟩ := Go.WideShapes.okWide_struct Try.underlying24 hv
  obtain ⟨fuel, hf⟩ := h
  obtain ⟨t, ht⟩ := ty_ofN (fuel + 1) fuel (by omega) _ _ hf
  exact ⟨t, cs.toList, by simp, by simpa [Value.cells] using ht⟩
set_option maxRecDepth 100000 in
theorem tys_arg {H : Type} {enc : TypeId × Value → H} {W : World} {b0 : Nat} {v : Value} {d : DataW H} {ps : List MemPlace} (hv : Value.okWide Try.prog W .any b0 22 v) (h : DataW.Trod enc Try.prog W 0 (fun _ => true) true 22 v d ps) :
    ∃ l : List Ty, TysV W (fun _ => True) l v := by
  obtain ⟨a, n, c, rfl⟩ := Go.WideShapes.okWide_slice Try.underlying22 hv
  obtain ⟨fuel, hf⟩ := h
  obtain ⟨l, v, hc, hl⟩ := tys_ofN hf
  simp [Value.cells] at hc
  subst hc
  exact ⟨l, hl⟩
set_option maxRecDepth 100000 in
theorem prog_arg {H : Type} {enc : TypeId × Value → H} {W : World} {b0 : Nat} {v : Value} {d : DataW H} {ps : List MemPlace} (hv : Value.okWide Try.prog W .any b0 32 v) (h : DataW.Trod enc Try.prog W 0 (fun _ => true) true 32 v d ps) :
    ∃ (ds : List Int) (cs : List Value), v = .agg cs.toArray ∧ ProgV W (fun _ => True) ds cs := by
  obtain ⟨cs, rfl, _⟩ := Go.WideShapes.okWide_struct Try.underlying32 hv
  obtain ⟨fuel, hf⟩ := h
  obtain ⟨ds, hd⟩ := prog_ofN hf
  exact ⟨ds, cs.toList, by simp, by simpa [Value.cells] using hd⟩
section
open Go.WideShapes Go.ChangeShapes
variable {H : Type} {enc : TypeId × Value → H} {P : Program}
/-- the row's last step where of the world behind the call 'Below' alone is known (the guide's own words) -/
theorem post_of_belowK {f : Func} {s : ChangeSpec} {apart fresh handsOn again : Bool} {W W' : World} {args : Array Value} {v : Value} {ds gs : List (DataW H)} {before pa pv : List MemPlace}
    (hW : DataW.Whole enc P f.params.toList s.vars apart W args.toList ds gs before)
    (hres : ∀ (b : Nat) (sp : Nat → Bool) (hd : Bool), DataW.TrodAll enc P W' b sp hd f.resultTypes.toList (v.resultList f.resultTypes.size) (s.fn H (ds ++ gs)).results [])
    (hargs : ∀ sp : Nat → Bool, (∀ p ∈ before, sp p.block = true) → DataW.TrodAll enc P W' 0 sp true f.params.toList args.toList (s.fn H (ds ++ gs)).args pa)
    (hvars : ∀ sp : Nat → Bool, (∀ p ∈ before, sp p.block = true) → DataW.TrodVars enc P W' sp s.vars (s.fn H (ds ++ gs)).vars pv)
    (hps : before = pa ++ pv) (hb : Below W.heap.size W W')
    (hok : ∀ (j : Nat) (t : TypeId) (r : Value), f.resultTypes[j]? = some t → (v.resultList f.resultTypes.size)[j]? = some r → Value.okWide P W' .any 0 t r) :
    s.post enc P f apart fresh handsOn again W args v W' := by
  have hlt : ∀ p ∈ before, p.block < W.heap.size := fun p hp => hW.lt p hp
  have hold : ∀ p ∈ before, (fun b => decide (b < W.heap.size)) p.block = true := fun p hp => by simpa using hlt p hp
  refine ⟨ds, gs, before, [], pa, pv, hW, hres _ _ _, hargs _ hold, hvars _ hold, World.keptBut_mono (fun p hp => ⟨hp, ?_⟩) (hb.frame (· ∈ before)), fun _ => ?_⟩
  · rw [hps, List.mem_append] at hp
    exact Or.inr hp
  · obtain ⟨_, _, _, _, _, hz, hn⟩ := hW
    refine ⟨hok, _, _, ([] ++ pa) ++ pv, ⟨[] ++ pa, pv, trodAll_append (hargs _ (fun _ _ => rfl)) (hres _ _ _), hvars _ (fun _ _ => rfl), rfl, ?_, ?_⟩, ?_⟩
    · intro b off hp
      have hin : MemPlace.cell b off ∈ before := by rw [hps]; simpa using hp
      rw [hb.frozen (hlt _ hin)]
      exact hz b off hin
    · intro ha
      have := hn ha
      rw [hps] at this
      simpa using this
    · intro p hp _
      rw [hps]
      simpa using hp
end
end Go.Proofs.Ytkhbgdhgjbnhpaa
