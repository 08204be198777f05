/-
  The walks of the law's bare and has.
-/
import Derived.Test.YtkhbgdhgjbnhpaaU46
import Derived.Test.YtkhbgdhgjbnhpaaU10
set_option linter.unusedVariables false
set_option linter.unusedSimpArgs false
set_option linter.unusedSectionVars false
namespace Go.Proofs.Ytkhbgdhgjbnhpaa
open Go.RowKit Go.Lib
open Un (kd nm ar size sizes bare bares hasP hasPs)

namespace Un
theorem bares_all (n : Int) : ∀ l, bares n l = l.all (bare n)
  | [] => by rw [bares]; rfl
  | a :: r => by rw [bares, bares_all n r]; rfl
theorem bare_eq (n : Int) (t : Ty) : bare n t = if kd t = 5 then (decide (0 ≤ nm t) && decide (nm t < n)) && (ar t).isEmpty else (ar t).all (bare n) := by cases t; rw [bare, bares_all]; rfl
theorem hasPs_any (n : Int) : ∀ l, hasPs n l = l.any (hasP n)
  | [] => by rw [hasPs]; rfl
  | a :: r => by rw [hasPs, hasPs_any n r]; rfl
theorem hasP_eq (n : Int) (t : Ty) : hasP n t = ((kd t == 5 && nm t == n) || (ar t).any (hasP n)) := by cases t; rw [hasP, hasPs_any]; rfl
end Un
set_option maxRecDepth 100000 in
set_option maxHeartbeats 1600000 in
theorem bare_any (N : Nat → Prop) (n : Int) : ∀ (m : Nat) (t : Ty), size t ≤ m → ∀ (cs : List Value) (w : World), TyV w N t cs → Calls Try.prog 28 #[.agg cs.toArray, .int .i64 n] w (LookP (bare n t) w) := by
  intro m
  induction m with
  | zero => intro t h; exact absurd (Un.size_pos t) (by omega)
  | succ m ih =>
    intro t hm cs w h
    have IH : Hid (∀ x ∈ ar t, ∀ (cs : List Value) (w : World), TyV w N x cs → Calls Try.prog 28 #[.agg cs.toArray, .int .i64 n] w (LookP (bare n x) w)) := Lib.hid fun x hx => ih x (by have := size_ar hx; omega)
    obtain ⟨R, hR⟩ : ∃ R, R = bare n t := ⟨_, rfl⟩
    have hE := Un.bare_eq n t
    rw [← hR] at hE ⊢
    obtain ⟨p, c, rfl, ha⟩ := h.shape
    have hlm := ha.len
    unfold maxLen at hlm
    have HA := Lib.hid ha
    obtain ⟨w1, hw1⟩ : ∃ w1, w1 = w.alloc (.cells #[.int .i64 (kd t), .int .i64 (nm t), .slice p (ar t).length c] 24) := ⟨_, rfl⟩
    have HF0 : Hid (Fr [] w w1) := Lib.hid (by rw [hw1]; exact (Fr.refl _ _).alloc _)
    have HB0 : Hid (Blk w1 w.heap.size 24 #[.int .i64 (kd t), .int .i64 (nm t), .slice p (ar t).length c]) := Lib.hid (by rw [hw1]; exact Blk.new _ _ _)
    clear h ha ih hm hR
    by_cases h5 : kd t = 5
    · have e1 : (kd t == 5) = true := by simp [h5]
      rw [if_pos h5] at hE
      have hz : (ar t).isEmpty = (((ar t).length : Int) == 0) := by rw [Bool.eq_iff_iff]; simp
      rw [hz] at hE
      have HE := Lib.hid hE
      clear hE hz h5 IH HA
      cases e2 : decide (0 ≤ nm t) with
      | false =>
        have HR : Hid (R = false) := Lib.hid (by rw [HE.out, e2]; rfl)
        go_enter Try.func28, Try.ntmps28
        go_wp2_with fail
        go_ret
        exact ⟨by rw [HR.out]; rfl, by rw [← hw1]; exact HF0.out⟩
      | true =>
        cases e3 : decide (nm t < n) with
        | false =>
          have HR : Hid (R = false) := Lib.hid (by rw [HE.out, e2, e3]; rfl)
          go_enter Try.func28, Try.ntmps28
          go_wp2_with fail
          go_ret
          exact ⟨by rw [HR.out]; rfl, by rw [← hw1]; exact HF0.out⟩
        | true =>
          have HR : Hid (R = (((ar t).length : Int) == 0)) := Lib.hid (by rw [HE.out, e2, e3]; rfl)
          go_enter Try.func28, Try.ntmps28
          go_wp2_with fail
          go_ret
          exact ⟨by rw [HR.out]; rfl, by rw [← hw1]; exact HF0.out⟩
    · have e1 : (kd t == 5) = false := by simp [h5]
      rw [if_neg h5] at hE
      obtain ⟨l, hl⟩ : ∃ l, l = ar t := ⟨_, rfl⟩
      have HE : Hid (R = l.all (bare n)) := Lib.hid (by rw [hE, hl])
      rw [← hl] at IH hlm HA HB0 hw1 ⊢
      clear hE hl
      go_enter Try.func28, Try.ntmps28
      go_wp2_with fail
      rw [← hw1]
      clear hw1
      go_loopw [5] (fun v wr => ∃ i : Nat, v = .int .i64 i ∧ i ≤ l.length ∧ Hid (∀ j, j < i → ∀ x, l[j]? = some x → bare n x = true) ∧ Hid (Fr [] w wr) ∧ Hid (Blk wr w.heap.size 24 #[.int .i64 (kd t), .int .i64 (nm t), .slice p l.length c])) (fun v _ => l.length - (RowKit.intOf v).toNat)
      case atStart => exact ⟨0, rfl, Nat.zero_le _, Lib.hid (fun j hj => by omega), HF0, HB0⟩
      case round =>
        obtain ⟨i, rfl, hi, HG, HFR, HBR⟩ := hrel
        have hbl : w.heap.size < wr.heap.size := HBR.out.lt
        have b2 : wr.cell? ⟨w.heap.size, 2, none⟩ = some (.slice p l.length c) := HBR.out.cell 2
        by_cases hlt : i < l.length
        · have hd2 : decide ((i : Int) < (l.length : Int)) = true := by simp; omega
          have hd3 : decide (i < l.length) = true := by simpa using hlt
          obtain ⟨b, o, rfl, hat⟩ : ∃ b o, p = some ⟨b, o, none⟩ ∧ TysAt w N l b o := by
            rcases HA.out.cases with ⟨h, _⟩ | ⟨_, b, o, cap, heq, _, _, hat⟩
            · rw [h] at hlt; simp at hlt
            · simp only [Value.slice.injEq] at heq
              exact ⟨b, o, heq.1, hat⟩
          obtain ⟨p1, c1, k1, hb, g0, g1, g2⟩ := hat.el HFR.out (by simp) (List.getElem?_eq_getElem hlt)
          have K1 := Lib.hid k1
          obtain ⟨x, hx⟩ : ∃ x, x = l[i] := ⟨_, rfl⟩
          have HLX : Hid (l[i]? = some x) := Lib.hid (by rw [hx]; exact List.getElem?_eq_getElem hlt)
          rw [← hx] at g0 g1 g2 K1
          clear k1 hat hx
          go_wp2_with fail
          refine (IH.out x (List.mem_of_getElem? HLX.out) _ _ K1.out).mono ?_
          rintro e w2 ⟨rfl, hf2⟩
          have HF2 := Lib.hid (HFR.out.trans hf2)
          have HB2 := Lib.hid (HBR.out.keep hf2 (by simp))
          clear hf2 g0 g1 g2 b2 hbl
          cases hv : bare n x with
          | false =>
            have HR : Hid (R = false) := Lib.hid (by
              rw [HE.out]
              cases hq : l.all (bare n) with
              | false => rfl
              | true => have h1 := (List.all_eq_true.1 hq) x (List.mem_of_getElem? HLX.out); rw [hv] at h1; cases h1)
            clear hv
            go_wp2_with fail
            go_ret
            exact ⟨by rw [HR.out]; rfl, HF2.out⟩
          | true =>
            have HV := Lib.hid hv
            clear hv
            go_wp2_with fail
            go_roundw
            case rel => exact ⟨i + 1, by go_num, by omega, Lib.hid (fun j hj y hy => by
              by_cases hj' : j < i
              · exact HG.out j hj' y hy
              · obtain rfl : j = i := by omega
                rw [HLX.out] at hy
                cases hy
                exact HV.out), HF2, HB2⟩
            case measure => simp [RowKit.intOf]; omega
        · have hd2 : decide ((i : Int) < (l.length : Int)) = false := by simp; omega
          have hd3 : decide (i < l.length) = false := by simpa using hlt
          have hall : ∀ x ∈ l, bare n x = true := fun x hx => by
            obtain ⟨j, hj, rfl⟩ := List.getElem_of_mem hx
            exact HG.out j (by omega) _ (List.getElem?_eq_getElem hj)
          have HR : Hid (R = true) := Lib.hid (by
            rw [HE.out]
            exact List.all_eq_true.2 hall)
          clear hall
          go_wp2_with fail
          go_ret
          exact ⟨by rw [HR.out]; rfl, HFR.out⟩
set_option maxRecDepth 100000 in
set_option maxHeartbeats 1600000 in
theorem has_any (N : Nat → Prop) (n : Int) : ∀ (m : Nat) (t : Ty), size t ≤ m → ∀ (cs : List Value) (w : World), TyV w N t cs → Calls Try.prog 29 #[.agg cs.toArray, .int .i64 n] w (LookP (hasP n t) w) := by
  intro m
  induction m with
  | zero => intro t h; exact absurd (Un.size_pos t) (by omega)
  | succ m ih =>
    intro t hm cs w h
    have IH : Hid (∀ x ∈ ar t, ∀ (cs : List Value) (w : World), TyV w N x cs → Calls Try.prog 29 #[.agg cs.toArray, .int .i64 n] w (LookP (hasP n x) w)) := Lib.hid fun x hx => ih x (by have := size_ar hx; omega)
    obtain ⟨R, hR⟩ : ∃ R, R = hasP n t := ⟨_, rfl⟩
    have hE := Un.hasP_eq n t
    rw [← hR] at hE ⊢
    obtain ⟨p, c, rfl, ha⟩ := h.shape
    have hlm := ha.len
    unfold maxLen at hlm
    have HA := Lib.hid ha
    obtain ⟨w1, hw1⟩ : ∃ w1, w1 = w.alloc (.cells #[.int .i64 (kd t), .int .i64 (nm t), .slice p (ar t).length c] 24) := ⟨_, rfl⟩
    have HF0 : Hid (Fr [] w w1) := Lib.hid (by rw [hw1]; exact (Fr.refl _ _).alloc _)
    have HB0 : Hid (Blk w1 w.heap.size 24 #[.int .i64 (kd t), .int .i64 (nm t), .slice p (ar t).length c]) := Lib.hid (by rw [hw1]; exact Blk.new _ _ _)
    clear h ha ih hm hR
    cases e1 : (kd t == 5 && nm t == n) with
    | true =>
      have HR : Hid (R = true) := Lib.hid (by rw [hE, e1]; rfl)
      rw [Bool.and_eq_true] at e1
      obtain ⟨e2, e3⟩ := e1
      clear hE IH HA
      go_enter Try.func29, Try.ntmps29
      go_wp2_with fail
      go_ret
      exact ⟨by rw [HR.out]; rfl, by rw [← hw1]; exact HF0.out⟩
    | false =>
      rw [e1, Bool.false_or] at hE
      have e2 : (kd t == 5) = false ∨ ((kd t == 5) = true ∧ (nm t == n) = false) := by
        cases h5 : (kd t == 5) with
        | false => exact .inl rfl
        | true => rw [h5, Bool.true_and] at e1; exact .inr ⟨rfl, e1⟩
      clear e1
      obtain ⟨l, hl⟩ : ∃ l, l = ar t := ⟨_, rfl⟩
      have HE : Hid (R = l.any (hasP n)) := Lib.hid (by rw [hE, hl])
      rw [← hl] at IH hlm HA HB0 hw1 ⊢
      clear hE hl
      rcases e2 with e2 | ⟨e2, e3⟩
      all_goals
        go_enter Try.func29, Try.ntmps29
        go_wp2_with fail
        rw [← hw1]
        clear hw1
        go_loopw [5] (fun v wr => ∃ i : Nat, v = .int .i64 i ∧ i ≤ l.length ∧ Hid (∀ j, j < i → ∀ x, l[j]? = some x → hasP n x = false) ∧ Hid (Fr [] w wr) ∧ Hid (Blk wr w.heap.size 24 #[.int .i64 (kd t), .int .i64 (nm t), .slice p l.length c])) (fun v _ => l.length - (RowKit.intOf v).toNat)
        case atStart => exact ⟨0, rfl, Nat.zero_le _, Lib.hid (fun j hj => by omega), HF0, HB0⟩
        case round =>
          obtain ⟨i, rfl, hi, HG, HFR, HBR⟩ := hrel
          have hbl : w.heap.size < wr.heap.size := HBR.out.lt
          have b2 : wr.cell? ⟨w.heap.size, 2, none⟩ = some (.slice p l.length c) := HBR.out.cell 2
          by_cases hlt : i < l.length
          · have hd2 : decide ((i : Int) < (l.length : Int)) = true := by simp; omega
            have hd3 : decide (i < l.length) = true := by simpa using hlt
            obtain ⟨b, o, rfl, hat⟩ : ∃ b o, p = some ⟨b, o, none⟩ ∧ TysAt w N l b o := by
              rcases HA.out.cases with ⟨h, _⟩ | ⟨_, b, o, cap, heq, _, _, hat⟩
              · rw [h] at hlt; simp at hlt
              · simp only [Value.slice.injEq] at heq
                exact ⟨b, o, heq.1, hat⟩
            obtain ⟨p1, c1, k1, hb, g0, g1, g2⟩ := hat.el HFR.out (by simp) (List.getElem?_eq_getElem hlt)
            have K1 := Lib.hid k1
            obtain ⟨x, hx⟩ : ∃ x, x = l[i] := ⟨_, rfl⟩
            have HLX : Hid (l[i]? = some x) := Lib.hid (by rw [hx]; exact List.getElem?_eq_getElem hlt)
            rw [← hx] at g0 g1 g2 K1
            clear k1 hat hx
            go_wp2_with fail
            refine (IH.out x (List.mem_of_getElem? HLX.out) _ _ K1.out).mono ?_
            rintro e w2 ⟨rfl, hf2⟩
            have HF2 := Lib.hid (HFR.out.trans hf2)
            have HB2 := Lib.hid (HBR.out.keep hf2 (by simp))
            clear hf2 g0 g1 g2 b2 hbl
            cases hv : hasP n x with
            | true =>
              have HR : Hid (R = true) := Lib.hid (by
                rw [HE.out]
                exact List.any_eq_true.2 ⟨x, List.mem_of_getElem? HLX.out, hv⟩)
              clear hv
              go_wp2_with fail
              go_ret
              exact ⟨by rw [HR.out]; rfl, HF2.out⟩
            | false =>
              have HV := Lib.hid hv
              clear hv
              go_wp2_with fail
              go_roundw
              case rel => exact ⟨i + 1, by go_num, by omega, Lib.hid (fun j hj y hy => by
                by_cases hj' : j < i
                · exact HG.out j hj' y hy
                · obtain rfl : j = i := by omega
                  rw [HLX.out] at hy
                  cases hy
                  exact HV.out), HF2, HB2⟩
              case measure => simp [RowKit.intOf]; omega
          · have hd2 : decide ((i : Int) < (l.length : Int)) = false := by simp; omega
            have hd3 : decide (i < l.length) = false := by simpa using hlt
            have hall : ∀ x ∈ l, hasP n x = false := fun x hx => by
              obtain ⟨j, hj, rfl⟩ := List.getElem_of_mem hx
              exact HG.out j (by omega) _ (List.getElem?_eq_getElem hj)
            have HR : Hid (R = false) := Lib.hid (by
              rw [HE.out]
              rw [List.any_eq_false]; intro x hx; rw [hall x hx]; simp)
            clear hall
            go_wp2_with fail
            go_ret
            exact ⟨by rw [HR.out]; rfl, HFR.out⟩
end Go.Proofs.Ytkhbgdhgjbnhpaa
