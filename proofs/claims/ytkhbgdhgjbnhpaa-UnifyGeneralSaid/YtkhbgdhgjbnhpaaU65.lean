/-
  The walks of the reference's variable, Inside, find and Occurs (where no variable is solved).
-/
import Derived.Test.YtkhbgdhgjbnhpaaU63
import Derived.Test.YtkhbgdhgjbnhpaaU43
import Derived.Deep.DeepCutAuto
import Derived.Deep.Cut
set_option linter.unusedVariables false
set_option linter.unusedSimpArgs false
set_option linter.unusedSectionVars false
namespace Go.Proofs.Ytkhbgdhgjbnhpaa
open Go.RowKit Go.Lib
open Un (kd nm ar size sizes over occ)

theorem rvariable_any (t : Ty) (cs : List Value) (w : World) (N : Nat → Prop) (h : TyV w N t cs) : Calls Try.prog 59 #[.agg cs.toArray] w (LookP (kd t == 9) w) := by
  obtain ⟨p, c, rfl, _⟩ := h.shape
  clear h
  go_enter Try.func59, Try.ntmps59
  go_wp2_with fail
  go_ret
  exact ⟨rfl, (Fr.refl _ _).alloc _⟩
set_option maxRecDepth 100000 in
set_option maxHeartbeats 1600000 in
theorem inside_any (N : Nat → Prop) (n : Int) : ∀ (m : Nat) (t : Ty), size t ≤ m → ∀ (cs : List Value) (w : World), TyV w N t cs → Calls Try.prog 27 #[.agg cs.toArray, .int .i64 n] w (LookP (over n t) w) := by
  intro m
  induction m with
  | zero => intro t h; exact absurd (Un.size_pos t) (by omega)
  | succ m ih =>
    intro t hm cs w h
    have IH : Hid (∀ x ∈ ar t, ∀ (cs : List Value) (w : World), TyV w N x cs → Calls Try.prog 27 #[.agg cs.toArray, .int .i64 n] w (LookP (over n x) w)) := Lib.hid fun x hx => ih x (by have := size_ar hx; omega)
    obtain ⟨R, hR⟩ : ∃ R, R = over n t := ⟨_, rfl⟩
    have hE := Un.over_eq n t
    rw [← hR] at hE ⊢
    obtain ⟨p, c, rfl, ha⟩ := h.shape
    have hlm := ha.len
    unfold maxLen at hlm
    have HA := Lib.hid ha
    obtain ⟨w1, hw1⟩ : ∃ w1, w1 = w.alloc (.cells #[.int .i64 (kd t), .int .i64 (nm t), .slice p (ar t).length c] 24) := ⟨_, rfl⟩
    have HF0 : Hid (Fr [] w w1) := Lib.hid (by rw [hw1]; exact (Fr.refl _ _).alloc _)
    have HB0 : Hid (Blk w1 w.heap.size 24 #[.int .i64 (kd t), .int .i64 (nm t), .slice p (ar t).length c]) := Lib.hid (by rw [hw1]; exact Blk.new _ _ _)
    have h0 := h
    clear h ha ih hm hR
    have HT := Lib.hid h0
    clear h0
    by_cases h5 : kd t = 9
    · have e1 : (kd t == 9) = true := by simp [h5]
      have k1 : decide (kd t < 1) = false := by simp; omega
      have k2 : decide (9 < kd t) = false := by simp; omega
      have HE1 := Lib.hid e1
      rw [if_pos h5] at hE
      have hz : (ar t).isEmpty = (((ar t).length : Int) == 0) := by rw [Bool.eq_iff_iff]; simp
      rw [hz] at hE
      have HE := Lib.hid hE
      clear hE hz h5 IH HA
      cases e2 : decide (0 ≤ nm t) with
      | false =>
        have HR : Hid (R = false) := Lib.hid (by rw [HE.out, e2]; rfl)
        go_enter Try.func27, Try.ntmps27
        go_wp2_with fail
        rw [← hw1]
        refine (rvariable_any t _ w1 N (HT.out.keep0 HF0.out)).mono ?_
        rw [HE1.out]
        rintro e w2 ⟨rfl, hf2⟩
        have HF2 := Lib.hid (HF0.out.trans hf2)
        have HB2 := Lib.hid (HB0.out.keep hf2 (by simp))
        have x0 : w2.cell? ⟨w.heap.size, 0, none⟩ = some (.int .i64 (kd t)) := HB2.out.cell 0
        have x1 : w2.cell? ⟨w.heap.size, 1, none⟩ = some (.int .i64 (nm t)) := HB2.out.cell 1
        have x2 : w2.cell? ⟨w.heap.size, 2, none⟩ = some (.slice p (ar t).length c) := HB2.out.cell 2
        have xl : w.heap.size < w2.heap.size := HB2.out.lt
        clear hf2 hw1
        go_wp2_with fail
        go_ret
        exact ⟨by rw [HR.out]; rfl, HF2.out⟩
      | true =>
        cases e3 : decide (nm t < n) with
        | false =>
          have HR : Hid (R = false) := Lib.hid (by rw [HE.out, e2, e3]; rfl)
          go_enter Try.func27, Try.ntmps27
          go_wp2_with fail
          rw [← hw1]
          refine (rvariable_any t _ w1 N (HT.out.keep0 HF0.out)).mono ?_
          rw [HE1.out]
          rintro e w2 ⟨rfl, hf2⟩
          have HF2 := Lib.hid (HF0.out.trans hf2)
          have HB2 := Lib.hid (HB0.out.keep hf2 (by simp))
          have x0 : w2.cell? ⟨w.heap.size, 0, none⟩ = some (.int .i64 (kd t)) := HB2.out.cell 0
          have x1 : w2.cell? ⟨w.heap.size, 1, none⟩ = some (.int .i64 (nm t)) := HB2.out.cell 1
          have x2 : w2.cell? ⟨w.heap.size, 2, none⟩ = some (.slice p (ar t).length c) := HB2.out.cell 2
          have xl : w.heap.size < w2.heap.size := HB2.out.lt
          clear hf2 hw1
          go_wp2_with fail
          go_ret
          exact ⟨by rw [HR.out]; rfl, HF2.out⟩
        | true =>
          have HR : Hid (R = (((ar t).length : Int) == 0)) := Lib.hid (by rw [HE.out, e2, e3]; rfl)
          go_enter Try.func27, Try.ntmps27
          go_wp2_with fail
          rw [← hw1]
          refine (rvariable_any t _ w1 N (HT.out.keep0 HF0.out)).mono ?_
          rw [HE1.out]
          rintro e w2 ⟨rfl, hf2⟩
          have HF2 := Lib.hid (HF0.out.trans hf2)
          have HB2 := Lib.hid (HB0.out.keep hf2 (by simp))
          have x0 : w2.cell? ⟨w.heap.size, 0, none⟩ = some (.int .i64 (kd t)) := HB2.out.cell 0
          have x1 : w2.cell? ⟨w.heap.size, 1, none⟩ = some (.int .i64 (nm t)) := HB2.out.cell 1
          have x2 : w2.cell? ⟨w.heap.size, 2, none⟩ = some (.slice p (ar t).length c) := HB2.out.cell 2
          have xl : w.heap.size < w2.heap.size := HB2.out.lt
          clear hf2 hw1
          go_wp2_with fail
          go_ret
          exact ⟨by rw [HR.out]; rfl, HF2.out⟩
    · have e1 : (kd t == 9) = false := by simp [h5]
      have HE1 := Lib.hid e1
      rw [if_neg h5] at hE
      cases k1 : decide (kd t < 1) with
      | true =>
        have HR : Hid (R = false) := Lib.hid (by
          have : decide (1 ≤ kd t) = false := by simp at k1 ⊢; omega
          rw [hE, this]; rfl)
        clear hE IH HA
        go_enter Try.func27, Try.ntmps27
        go_wp2_with fail
        go_ret
        exact ⟨by rw [HR.out]; rfl, by rw [← hw1]; exact HF0.out⟩
      | false =>
      cases k2 : decide (9 < kd t) with
      | true =>
        have HR : Hid (R = false) := Lib.hid (by
          have : decide (kd t < 9) = false := by simp at k2 ⊢; omega
          rw [hE, this]; simp)
        clear hE IH HA
        go_enter Try.func27, Try.ntmps27
        go_wp2_with fail
        go_ret
        exact ⟨by rw [HR.out]; rfl, by rw [← hw1]; exact HF0.out⟩
      | false =>
      obtain ⟨l, hl⟩ : ∃ l, l = ar t := ⟨_, rfl⟩
      have HE : Hid (R = l.all (over n)) := Lib.hid (by
        have g1 : decide (1 ≤ kd t) = true := by simp at k1 ⊢; omega
        have g2 : decide (kd t < 9) = true := by simp at k1 k2 h5 ⊢; omega
        rw [hE, hl, g1, g2]; rfl)
      have HT' : Hid (∀ wx, Fr [] w wx → Calls Try.prog 59 #[.agg #[.int .i64 (kd t), .int .i64 (nm t), .slice p (ar t).length c]] wx (LookP (kd t == 9) wx)) := Lib.hid (fun wx hf => rvariable_any t _ wx N (HT.out.keep0 hf))
      rw [← hl] at IH hlm HA HB0 hw1 HT' ⊢
      clear hE hl h5
      go_enter Try.func27, Try.ntmps27
      go_wp2_with fail
      rw [← hw1]
      clear hw1
      refine (HT'.out w1 HF0.out).mono ?_
      rw [HE1.out]
      rintro e wv ⟨rfl, hfv⟩
      have HFV := Lib.hid (HF0.out.trans hfv)
      have HBV := Lib.hid (HB0.out.keep hfv (by simp))
      clear hfv e1
      go_wp2_with fail
      go_loopw [5] (fun v wr => ∃ i : Nat, v = .int .i64 i ∧ i ≤ l.length ∧ Hid (∀ j, j < i → ∀ x, l[j]? = some x → over n x = true) ∧ Hid (Fr [] w wr) ∧ Hid (Blk wr w.heap.size 24 #[.int .i64 (kd t), .int .i64 (nm t), .slice p l.length c])) (fun v _ => l.length - (RowKit.intOf v).toNat)
      case atStart => exact ⟨0, rfl, Nat.zero_le _, Lib.hid (fun j hj => by omega), HFV, HBV⟩
      case round =>
        obtain ⟨i, rfl, hi, HG, HFR, HBR⟩ := hrel
        have hbl : w.heap.size < wr.heap.size := HBR.out.lt
        have b2 : wr.cell? ⟨w.heap.size, 2, none⟩ = some (.slice p l.length c) := HBR.out.cell 2
        by_cases hlt : i < l.length
        · have hd2 : decide ((i : Int) < (l.length : Int)) = true := by simp; omega
          have hd3 : decide (i < l.length) = true := by simpa using hlt
          obtain ⟨b, o, rfl, hat⟩ : ∃ b o, p = some ⟨b, o, none⟩ ∧ TysAt w N l b o := by
            rcases HA.out.cases with ⟨h, _⟩ | ⟨_, b, o, cap, heq, _, _, hat⟩
            · rw [h] at hlt; simp at hlt
            · simp only [Value.slice.injEq] at heq
              exact ⟨b, o, heq.1, hat⟩
          obtain ⟨p1, c1, k1, hb, g0, g1, g2⟩ := hat.el HFR.out (by simp) (List.getElem?_eq_getElem hlt)
          have K1 := Lib.hid k1
          obtain ⟨x, hx⟩ : ∃ x, x = l[i] := ⟨_, rfl⟩
          have HLX : Hid (l[i]? = some x) := Lib.hid (by rw [hx]; exact List.getElem?_eq_getElem hlt)
          rw [← hx] at g0 g1 g2 K1
          clear k1 hat hx
          go_wp2_with fail
          refine (IH.out x (List.mem_of_getElem? HLX.out) _ _ K1.out).mono ?_
          rintro e w2 ⟨rfl, hf2⟩
          have HF2 := Lib.hid (HFR.out.trans hf2)
          have HB2 := Lib.hid (HBR.out.keep hf2 (by simp))
          clear hf2 g0 g1 g2 b2 hbl
          cases hv : over n x with
          | false =>
            have HR : Hid (R = false) := Lib.hid (by
              rw [HE.out]
              cases hq : l.all (over n) with
              | false => rfl
              | true => have h1 := (List.all_eq_true.1 hq) x (List.mem_of_getElem? HLX.out); rw [hv] at h1; cases h1)
            clear hv
            go_wp2_with fail
            go_ret
            exact ⟨by rw [HR.out]; rfl, HF2.out⟩
          | true =>
            have HV := Lib.hid hv
            clear hv
            go_wp2_with fail
            go_roundw
            case rel => exact ⟨i + 1, by go_num, by omega, Lib.hid (fun j hj y hy => by
              by_cases hj' : j < i
              · exact HG.out j hj' y hy
              · obtain rfl : j = i := by omega
                rw [HLX.out] at hy
                cases hy
                exact HV.out), HF2, HB2⟩
            case measure => simp [RowKit.intOf]; omega
        · have hd2 : decide ((i : Int) < (l.length : Int)) = false := by simp; omega
          have hd3 : decide (i < l.length) = false := by simpa using hlt
          have hall : ∀ x ∈ l, over n x = true := fun x hx => by
            obtain ⟨j, hj, rfl⟩ := List.getElem_of_mem hx
            exact HG.out j (by omega) _ (List.getElem?_eq_getElem hj)
          have HR : Hid (R = true) := Lib.hid (by
            rw [HE.out]
            exact List.all_eq_true.2 hall)
          clear hall
          go_wp2_with fail
          go_ret
          exact ⟨by rw [HR.out]; rfl, HFR.out⟩
/-- find, where no variable is solved -/
theorem find_any (N N' : Nat → Prop) (n : Nat) (v : Value) (t : Ty) (cs : List Value) (w : World) (hv : TysV w N (Un.zeros n) v) (h : TyV w N' t cs) (ho : over n t = true) :
    Calls Try.prog 60 #[v, .agg cs.toArray] w fun e w' => e = .returned (.agg cs.toArray) ∧ Fr [] w w' := by
  obtain ⟨p, c, rfl, ha⟩ := h.shape
  obtain ⟨ps, kp, rfl⟩ := hv.shape
  have hln := hv.len
  rw [Un.zeros_len] at hln
  unfold maxLen at hln
  have HVA : Hid (∀ wx, Fr [] w wx → Calls Try.prog 59 #[.agg #[.int .i64 (kd t), .int .i64 (nm t), .slice p (ar t).length c]] wx (LookP (kd t == 9) wx)) := Lib.hid (fun wx hf => rvariable_any t _ wx N' (h.keep0 hf))
  have HV := Lib.hid hv
  rw [Un.zeros_len] at HV ⊢
  by_cases h9 : kd t = 9
  · obtain ⟨h0, hn, har⟩ := Un.vin_var (Un.vin_of_over _ _ ho) h9
    clear har
    obtain ⟨m, hm⟩ : ∃ m : Nat, nm t = m := ⟨(nm t).toNat, by omega⟩
    have hmn : m < n := by omega
    have e4 : decide (m < n) = true := by simpa using hmn
    have e5 : decide ((m : Int) < (n : Int)) = true := by simp; omega
    obtain ⟨b, o, rfl, hat⟩ : ∃ b o, ps = some ⟨b, o, none⟩ ∧ TysAt w N (Un.zeros n) b o := by
      have h1 := HV.out
      rcases hv.cases with ⟨h, _⟩ | ⟨_, b, o, cap, heq, _, _, hat⟩
      · have := congrArg List.length h
        rw [Un.zeros_len] at this
        simp at this
        omega
      · simp only [Value.slice.injEq] at heq
        exact ⟨b, o, heq.1, hat⟩
    have HZ : Hid ((Un.zeros n)[m]? = some Un.zero) := Lib.hid (by unfold Un.zeros; rw [List.getElem?_replicate, if_pos hmn])
    have HAT := Lib.hid hat
    rw [h9, hm] at HVA ⊢
    rw [show ((9 : Int) == 9) = true from rfl] at HVA
    clear hv h ho ha h9 hm h0 hn hat
    obtain ⟨w1, hw1⟩ : ∃ w1, w1 = (w.alloc (.cells #[.int .i64 9, .int .i64 m, .slice p (ar t).length c] 24)).alloc (.cells #[.int .i64 0, .int .i64 0, .slice none 0 0] 24) := ⟨_, rfl⟩
    have HF0 : Hid (Fr [] w w1) := Lib.hid (by rw [hw1]; exact ((Fr.refl _ _).alloc _).alloc _)
    have HB0 : Hid (Blk w1 w.heap.size 24 #[.int .i64 9, .int .i64 m, .slice p (ar t).length c]) := Lib.hid (by rw [hw1]; exact (Blk.new _ _ _).alloc _)
    have HB1 : Hid (Blk w1 (w.heap.size + 1) 24 #[.int .i64 0, .int .i64 0, .slice none 0 0]) := Lib.hid (by rw [hw1]; exact Blk.new_at (by simp))
    go_enter Try.func60, Try.ntmps60
    go_wp2_with fail
    rw [← hw1]
    clear hw1
    go_loopw [5] (fun _ wr => Hid (Fr [] w wr) ∧ Hid (Blk wr w.heap.size 24 #[.int .i64 9, .int .i64 m, .slice p (ar t).length c]) ∧ Hid (Blk wr (w.heap.size + 1) 24 #[.int .i64 0, .int .i64 0, .slice none 0 0])) (fun _ _ => 0)
    case atStart => exact ⟨HF0, HB0, HB1⟩
    case round =>
      obtain ⟨HFR, HBR0, HBR1⟩ := hrel
      have s0 : wr.cell? ⟨w.heap.size, 0, none⟩ = some (.int .i64 9) := HBR0.out.cell 0
      have s1 : wr.cell? ⟨w.heap.size, 1, none⟩ = some (.int .i64 m) := HBR0.out.cell 1
      have s2 : wr.cell? ⟨w.heap.size, 2, none⟩ = some (.slice p (ar t).length c) := HBR0.out.cell 2
      have sl : w.heap.size < wr.heap.size := HBR0.out.lt
      go_wp2_with fail
      refine (HVA.out wr HFR.out).mono ?_
      rintro e w2 ⟨rfl, hf2⟩
      have HF2 := Lib.hid (HFR.out.trans hf2)
      have HB2 := Lib.hid (HBR0.out.keep hf2 (by simp))
      have HR2 := Lib.hid (HBR1.out.keep hf2 (by simp))
      clear hf2 s0 s1 s2 sl
      have s0 : w2.cell? ⟨w.heap.size, 0, none⟩ = some (.int .i64 9) := HB2.out.cell 0
      have s1 : w2.cell? ⟨w.heap.size, 1, none⟩ = some (.int .i64 m) := HB2.out.cell 1
      have s2 : w2.cell? ⟨w.heap.size, 2, none⟩ = some (.slice p (ar t).length c) := HB2.out.cell 2
      have sl : w.heap.size < w2.heap.size := HB2.out.lt
      have r0 : w2.cell? ⟨w.heap.size + 1, 0, none⟩ = some (.int .i64 0) := HR2.out.cell 0
      have r1 : w2.cell? ⟨w.heap.size + 1, 1, none⟩ = some (.int .i64 0) := HR2.out.cell 1
      have r2 : w2.cell? ⟨w.heap.size + 1, 2, none⟩ = some (.slice none 0 0) := HR2.out.cell 2
      have t0 := HR2.out.frozen 0
      have t1 := HR2.out.frozen 1
      have t2 := HR2.out.frozen 2
      have hz1 : w.heap.size + 1 < w2.heap.size := HR2.out.lt
      obtain ⟨p1, c1, k1, hb, g0, g1, g2⟩ := HAT.out.el HF2.out (by simp) HZ.out
      have e6 : (m : Int) < (n : Int) := by omega
      simp only [Un.zero, kd] at g0
      clear k1 g1 g2
      go_wp2_with fail
      have hbx := HR2.out.set3 (.int .i64 9) (.int .i64 m) (.slice p (ar t).length c)
      have d0 := hbx.cell 0
      have d1 := hbx.cell 1
      have d2 := hbx.cell 2
      exact bodyPost_ret (v := .agg #[.int .i64 9, .int .i64 m, .slice p (ar t).length c]) (by simp [results, Try.results60, go_sem, d0, d1, d2]) rfl ⟨rfl, HF2.out.set3 (.inr (by omega)) _ _ _⟩
  · have e1 : (kd t == 9) = false := by simp [h9]
    rw [e1] at HVA
    clear hv h ho ha h9 e1
    obtain ⟨w1, hw1⟩ : ∃ w1, w1 = (w.alloc (.cells #[.int .i64 (kd t), .int .i64 (nm t), .slice p (ar t).length c] 24)).alloc (.cells #[.int .i64 0, .int .i64 0, .slice none 0 0] 24) := ⟨_, rfl⟩
    have HF0 : Hid (Fr [] w w1) := Lib.hid (by rw [hw1]; exact ((Fr.refl _ _).alloc _).alloc _)
    have HB0 : Hid (Blk w1 w.heap.size 24 #[.int .i64 (kd t), .int .i64 (nm t), .slice p (ar t).length c]) := Lib.hid (by rw [hw1]; exact (Blk.new _ _ _).alloc _)
    have HB1 : Hid (Blk w1 (w.heap.size + 1) 24 #[.int .i64 0, .int .i64 0, .slice none 0 0]) := Lib.hid (by rw [hw1]; exact Blk.new_at (by simp))
    go_enter Try.func60, Try.ntmps60
    go_wp2_with fail
    rw [← hw1]
    clear hw1
    go_loopw [5] (fun _ wr => Hid (Fr [] w wr) ∧ Hid (Blk wr w.heap.size 24 #[.int .i64 (kd t), .int .i64 (nm t), .slice p (ar t).length c]) ∧ Hid (Blk wr (w.heap.size + 1) 24 #[.int .i64 0, .int .i64 0, .slice none 0 0])) (fun _ _ => 0)
    case atStart => exact ⟨HF0, HB0, HB1⟩
    case round =>
      obtain ⟨HFR, HBR0, HBR1⟩ := hrel
      have s0 : wr.cell? ⟨w.heap.size, 0, none⟩ = some (.int .i64 (kd t)) := HBR0.out.cell 0
      have s1 : wr.cell? ⟨w.heap.size, 1, none⟩ = some (.int .i64 (nm t)) := HBR0.out.cell 1
      have s2 : wr.cell? ⟨w.heap.size, 2, none⟩ = some (.slice p (ar t).length c) := HBR0.out.cell 2
      have sl : w.heap.size < wr.heap.size := HBR0.out.lt
      go_wp2_with fail
      refine (HVA.out wr HFR.out).mono ?_
      rintro e w2 ⟨rfl, hf2⟩
      have HF2 := Lib.hid (HFR.out.trans hf2)
      have HB2 := Lib.hid (HBR0.out.keep hf2 (by simp))
      have HR2 := Lib.hid (HBR1.out.keep hf2 (by simp))
      clear hf2 s0 s1 s2 sl
      have s0 : w2.cell? ⟨w.heap.size, 0, none⟩ = some (.int .i64 (kd t)) := HB2.out.cell 0
      have s1 : w2.cell? ⟨w.heap.size, 1, none⟩ = some (.int .i64 (nm t)) := HB2.out.cell 1
      have s2 : w2.cell? ⟨w.heap.size, 2, none⟩ = some (.slice p (ar t).length c) := HB2.out.cell 2
      have sl : w.heap.size < w2.heap.size := HB2.out.lt
      have r0 : w2.cell? ⟨w.heap.size + 1, 0, none⟩ = some (.int .i64 0) := HR2.out.cell 0
      have r1 : w2.cell? ⟨w.heap.size + 1, 1, none⟩ = some (.int .i64 0) := HR2.out.cell 1
      have r2 : w2.cell? ⟨w.heap.size + 1, 2, none⟩ = some (.slice none 0 0) := HR2.out.cell 2
      have t0 := HR2.out.frozen 0
      have t1 := HR2.out.frozen 1
      have t2 := HR2.out.frozen 2
      have hz1 : w.heap.size + 1 < w2.heap.size := HR2.out.lt
  
      go_wp2_with fail
      have hbx := HR2.out.set3 (.int .i64 (kd t)) (.int .i64 (nm t)) (.slice p (ar t).length c)
      have d0 := hbx.cell 0
      have d1 := hbx.cell 1
      have d2 := hbx.cell 2
      exact bodyPost_ret (v := .agg #[.int .i64 (kd t), .int .i64 (nm t), .slice p (ar t).length c]) (by simp [results, Try.results60, go_sem, d0, d1, d2]) rfl ⟨rfl, HF2.out.set3 (.inr (by omega)) _ _ _⟩
set_option maxRecDepth 100000 in
set_option maxHeartbeats 1600000 in
theorem occurs_any (N N' : Nat → Prop) (n : Nat) (k : Int) (v : Value) : ∀ (m : Nat) (t : Ty), size t ≤ m → over n t = true → ∀ (cs : List Value) (w : World), TysV w N (Un.zeros n) v → TyV w N' t cs → Calls Try.prog 31 #[v, .int .i64 k, .agg cs.toArray] w (LookP (occ k t) w) := by
  intro m
  induction m with
  | zero => intro t h; exact absurd (Un.size_pos t) (by omega)
  | succ m ih =>
    intro t hm ho cs w hv h
    have hsub : kd t ≠ 9 → ∀ x ∈ ar t, over n x = true := fun h9 x hx => by
      rw [Un.over_eq, if_neg h9] at ho
      simp only [Bool.and_eq_true, List.all_eq_true] at ho
      exact ho.2 x hx
    have IH : Hid (kd t ≠ 9 → ∀ x ∈ ar t, ∀ (cs : List Value) (w : World), TysV w N (Un.zeros n) v → TyV w N' x cs → Calls Try.prog 31 #[v, .int .i64 k, .agg cs.toArray] w (LookP (occ k x) w)) := Lib.hid fun h9 x hx => ih x (by have := size_ar hx; omega) (hsub h9 x hx)
    obtain ⟨R, hR⟩ : ∃ R, R = occ k t := ⟨_, rfl⟩
    have hE := Un.occ_eq k t
    rw [← hR] at hE ⊢
    obtain ⟨p, c, rfl, ha⟩ := h.shape
    obtain ⟨ps, kp, rfl⟩ := hv.shape
    have hlm := ha.len
    unfold maxLen at hlm
    have HA := Lib.hid ha
    have HFI : Hid (∀ wx, Fr [] w wx → Calls Try.prog 60 #[.slice ps (Un.zeros n).length kp, .agg #[.int .i64 (kd t), .int .i64 (nm t), .slice p (ar t).length c]] wx fun e w' => e = .returned (.agg #[.int .i64 (kd t), .int .i64 (nm t), .slice p (ar t).length c]) ∧ Fr [] wx w') := Lib.hid (fun wx hf => find_any N N' n _ t _ wx (hv.keep0 hf) (h.keep0 hf) ho)
    have HVA : Hid (∀ wx, Fr [] w wx → Calls Try.prog 59 #[.agg #[.int .i64 (kd t), .int .i64 (nm t), .slice p (ar t).length c]] wx (LookP (kd t == 9) wx)) := Lib.hid (fun wx hf => rvariable_any t _ wx N' (h.keep0 hf))
    have HV := Lib.hid hv
    rw [Un.zeros_len] at HV HFI IH ⊢
    obtain ⟨w1, hw1⟩ : ∃ w1, w1 = w.alloc (.cells #[.int .i64 (kd t), .int .i64 (nm t), .slice p (ar t).length c] 24) := ⟨_, rfl⟩
    have HF0 : Hid (Fr [] w w1) := Lib.hid (by rw [hw1]; exact (Fr.refl _ _).alloc _)
    have HB0 : Hid (Blk w1 w.heap.size 24 #[.int .i64 (kd t), .int .i64 (nm t), .slice p (ar t).length c]) := Lib.hid (by rw [hw1]; exact Blk.new _ _ _)
    obtain ⟨l, hl⟩ : ∃ l, l = ar t := ⟨_, rfl⟩
    rw [← hl] at IH hlm HA HB0 hw1 HFI HVA hE ⊢
    have HE := Lib.hid hE
    clear h ha ih hm hR hv ho hsub hl hE
    go_enter Try.func31, Try.ntmps31
    go_wp2_with fail
    rw [← hw1]
    clear hw1
    refine (HFI.out w1 HF0.out).mono ?_
    rintro e w2 ⟨rfl, hf2⟩
    have HF2 := Lib.hid (HF0.out.trans hf2)
    have HB2 := Lib.hid (HB0.out.keep hf2 (by simp))
    clear hf2
    have x0 : w2.cell? ⟨w.heap.size, 0, none⟩ = some (.int .i64 (kd t)) := HB2.out.cell 0
    have x1 : w2.cell? ⟨w.heap.size, 1, none⟩ = some (.int .i64 (nm t)) := HB2.out.cell 1
    have x2 : w2.cell? ⟨w.heap.size, 2, none⟩ = some (.slice p l.length c) := HB2.out.cell 2
    have y0 := HB2.out.frozen 0
    have y1 := HB2.out.frozen 1
    have y2 := HB2.out.frozen 2
    have xl : w.heap.size < w2.heap.size := HB2.out.lt
    go_wp2_with fail
    obtain ⟨w3, hw3⟩ : ∃ w3, w3 = ((w2.setCell ⟨w.heap.size, 0, none⟩ (.int .i64 (kd t))).setCell ⟨w.heap.size, 1, none⟩ (.int .i64 (nm t))).setCell ⟨w.heap.size, 2, none⟩ (.slice p l.length c) := ⟨_, rfl⟩
    have HB3 : Hid (Blk w3 w.heap.size 24 #[.int .i64 (kd t), .int .i64 (nm t), .slice p l.length c]) := Lib.hid (by rw [hw3]; exact HB2.out.set3 _ _ _)
    have HF3 : Hid (Fr [] w w3) := Lib.hid (by rw [hw3]; exact HF2.out.set3 (.inr (Nat.le_refl _)) _ _ _)
    rw [← hw3]
    clear hw3 x0 x1 x2 y0 y1 y2 xl
    refine (HVA.out w3 HF3.out).mono ?_
    rintro e w4 ⟨rfl, hf4⟩
    have HF4 := Lib.hid (HF3.out.trans hf4)
    have HB4 := Lib.hid (HB3.out.keep hf4 (by simp))
    clear hf4
    by_cases h9 : kd t = 9
    · have e1 : (kd t == 9) = true := by simp [h9]
      have HR : Hid (R = (nm t == k)) := Lib.hid (by rw [HE.out, if_pos h9])
      rw [e1]
      have x1 : w4.cell? ⟨w.heap.size, 1, none⟩ = some (.int .i64 (nm t)) := HB4.out.cell 1
      have xl : w.heap.size < w4.heap.size := HB4.out.lt
      clear h9 e1
      go_wp2_with fail
      go_ret
      exact ⟨by rw [HR.out]; rfl, HF4.out⟩
    · have e1 : (kd t == 9) = false := by simp [h9]
      have HR0 : Hid (R = l.any (occ k)) := Lib.hid (by rw [HE.out, if_neg h9])
      have IH2 := Lib.hid (IH.out h9)
      rw [e1]
      clear h9 e1
      go_wp2_with fail
      go_loopw [7] (fun v wr => ∃ i : Nat, v = .int .i64 i ∧ i ≤ l.length ∧ Hid (∀ j, j < i → ∀ x, l[j]? = some x → occ k x = false) ∧ Hid (Fr [] w wr) ∧ Hid (Blk wr w.heap.size 24 #[.int .i64 (kd t), .int .i64 (nm t), .slice p l.length c])) (fun v _ => l.length - (RowKit.intOf v).toNat)
      case atStart => exact ⟨0, rfl, Nat.zero_le _, Lib.hid (fun j hj => by omega), HF4, HB4⟩
      case round =>
        obtain ⟨i, rfl, hi, HG, HFR, HBR⟩ := hrel
        have hbl : w.heap.size < wr.heap.size := HBR.out.lt
        have b2 : wr.cell? ⟨w.heap.size, 2, none⟩ = some (.slice p l.length c) := HBR.out.cell 2
        by_cases hlt : i < l.length
        · have hd2 : decide ((i : Int) < (l.length : Int)) = true := by simp; omega
          have hd3 : decide (i < l.length) = true := by simpa using hlt
          obtain ⟨b, o, rfl, hat⟩ : ∃ b o, p = some ⟨b, o, none⟩ ∧ TysAt w N' l b o := by
            rcases HA.out.cases with ⟨h, _⟩ | ⟨_, b, o, cap, heq, _, _, hat⟩
            · rw [h] at hlt; simp at hlt
            · simp only [Value.slice.injEq] at heq
              exact ⟨b, o, heq.1, hat⟩
          obtain ⟨p1, c1, k1, hb, g0, g1, g2⟩ := hat.el HFR.out (by simp) (List.getElem?_eq_getElem hlt)
          have K1 := Lib.hid k1
          obtain ⟨x, hx⟩ : ∃ x, x = l[i] := ⟨_, rfl⟩
          have HLX : Hid (l[i]? = some x) := Lib.hid (by rw [hx]; exact List.getElem?_eq_getElem hlt)
          rw [← hx] at g0 g1 g2 K1
          have HV1 := Lib.hid (HV.out.keep0 HFR.out)
          clear k1 hat hx
          go_wp2_with fail
          refine (IH2.out x (List.mem_of_getElem? HLX.out) _ _ HV1.out K1.out).mono ?_
          rintro e w5 ⟨rfl, hf5⟩
          have HF5 := Lib.hid (HFR.out.trans hf5)
          have HB5 := Lib.hid (HBR.out.keep hf5 (by simp))
          clear hf5 g0 g1 g2 b2 hbl
          cases hv : occ k x with
          | true =>
            have HR : Hid (R = true) := Lib.hid (by
              rw [HR0.out]
              exact List.any_eq_true.2 ⟨x, List.mem_of_getElem? HLX.out, hv⟩)
            clear hv
            go_wp2_with fail
            go_ret
            exact ⟨by rw [HR.out]; rfl, HF5.out⟩
          | false =>
            have HVX := Lib.hid hv
            clear hv
            go_wp2_with fail
            go_roundw
            case rel => exact ⟨i + 1, by go_num, by omega, Lib.hid (fun j hj y hy => by
              by_cases hj' : j < i
              · exact HG.out j hj' y hy
              · obtain rfl : j = i := by omega
                rw [HLX.out] at hy
                cases hy
                exact HVX.out), HF5, HB5⟩
            case measure => simp [RowKit.intOf]; omega
        · have hd2 : decide ((i : Int) < (l.length : Int)) = false := by simp; omega
          have hd3 : decide (i < l.length) = false := by simpa using hlt
          have hall : ∀ x ∈ l, occ k x = false := fun x hx => by
            obtain ⟨j, hj, rfl⟩ := List.getElem_of_mem hx
            exact HG.out j (by omega) _ (List.getElem?_eq_getElem hj)
          have HR : Hid (R = false) := Lib.hid (by
            rw [HR0.out]
            rw [List.any_eq_false]; intro x hx; rw [hall x hx]; simp)
          clear hall
          go_wp2_with fail
          go_ret
          exact ⟨by rw [HR.out]; rfl, HFR.out⟩
end Go.Proofs.Ytkhbgdhgjbnhpaa

/-
  The walk of UnifyFails.
-/
set_option linter.unusedVariables false
set_option linter.unusedSimpArgs false
set_option linter.unusedSectionVars false
namespace Go.Proofs.Ytkhbgdhgjbnhpaa
open Go.RowKit Go.Lib
open Un (kd nm ar size sizes over occ depth small zeros)

/-- the error that Unify answers -/
def ecode (r : Except Int (List Ty)) : Int := match r with
  | .error c => c
  | .ok _ => 0
theorem UnifyP.code {r : Except Int (List Ty)} {w w' : World} {e : Ending} (h : UnifyP r w e w') : ∃ v, e = .returned (.tuple #[v, .int .i64 (ecode r)]) ∧ Fr [] w w' := by
  obtain ⟨h1, h2⟩ := h
  cases r with
  | error c => exact ⟨_, h2, h1⟩
  | ok rs => obtain ⟨v, h3, _⟩ := h2; exact ⟨v, h3, h1⟩
theorem sizes_zeros : ∀ n, sizes (zeros n) = n
  | 0 => rfl
  | n + 1 => by
    show sizes (Un.zero :: zeros n) = n + 1
    rw [Un.sizes, sizes_zeros n]
    show 1 + n = n + 1
    omega
/-- Unify, where no variable is solved -/
theorem unify_zeros {n : Nat} (h1 : 1 ≤ n) (h8 : n ≤ 8) {a b : Ty} (ha : size a ≤ 30) (hb : size b ≤ 30) :
    ∃ r, (∀ (v : Value) (cs ds : List Value) (w : World), TysV w (fun _ => True) (zeros n) v → TyV w (fun _ => True) a cs → TyV w (fun _ => True) b ds → Calls Try.prog 11 #[v, .agg cs.toArray, .agg ds.toArray] w fun e w' => ∃ v, e = .returned (.tuple #[v, .int .i64 (ecode r)]) ∧ Fr [] w w') ∧
      (over n a = true → over n b = true → depth a ≤ 8 → depth b ≤ 8 → kd a ≠ kd b → kd a ≠ 9 → kd b ≠ 9 → ecode r = 8) ∧
      (∀ k : Nat, k < n → a = Un.var k → over n b = true → depth b ≤ 8 → kd b ≠ 9 → occ k b = true → ecode r = 8) := by
  have hz : ∀ t ∈ zeros n, size t ≤ 30 := fun t ht => by rw [Un.zeros_mem ht]; decide
  obtain ⟨fs, fe, fa, r, hr, _⟩ := Un.unifyG_total (s := zeros n) (a := a) (b := b) (A := 30) (by rw [Un.zeros_len]; omega) (by omega) (by omega) hz ha hb
  have hfu : Un.fuel (zeros n) a b 30 = (n + n + size a + size b) * 31 + 3 := by unfold Un.fuel; rw [Un.zeros_len, sizes_zeros]
  rw [hfu] at hr
  refine ⟨r, fun v cs ds w hv hca hcb => ?_, fun ga gb gda gdb gk ga9 gb9 => ?_, fun k hk hak gb gdb gb9 go => ?_⟩
  · refine (unifyG_any 30 fs _ fe fa (by omega) (by omega) (fun _ => True) (zeros n) v a b cs ds w hv hz (by rw [Un.zeros_len, sizes_zeros]; omega) (by rw [Un.zeros_len]; omega) (by rw [Un.zeros_len]; omega) true (Un.wf_zeros h1 h8) hca hcb ha hb r hr).mono ?_
    exact fun e w' h => h.code
  · rw [Un.unify_kinds (f := (n + n + size a + size b) * 31 + 2) (A := 30) h1 h8 ga gb gda gdb gk ga9 gb9 hr]; rfl
  · subst hak
    rw [Un.unify_occurs (f := (n + n + size (Un.var k) + size b) * 31 + 1) h1 h8 hk gb gdb gb9 go hr]; rfl
set_option maxRecDepth 100000 in
set_option maxHeartbeats 6400000 in
theorem fails_any (x q : Nat) (hx : x < 256) (hq : q < 256) (a b : Ty) (cs ds : List Value) (w : World) (ha : TyV w (fun _ => True) a cs) (hb : TyV w (fun _ => True) b ds) :
    Calls Try.prog 7 #[.int .u8 x, .agg cs.toArray, .agg ds.toArray, .int .u8 q] w (LookP true w) := by
  have HA := Lib.hid ha
  have HB := Lib.hid hb
  obtain ⟨pa, ca, rfl, _⟩ := ha.shape
  obtain ⟨pb, cb, rfl, _⟩ := hb.shape
  obtain ⟨n, hn⟩ : ∃ n, n = 1 + x % 8 := ⟨_, rfl⟩
  obtain ⟨j0, hj0, jz0, jz1, jz2⟩ := info_parts info_ty
  have hms : ∀ w1 : World, (Instr.makeSlice 22 (.int .i64 (n : Int)) (.int .i64 (n : Int))).run Try.prog w1 = .ok (.slice (some ⟨w1.heap.size, 0, none⟩) n n) (w1.alloc (.cells (madeCells #[.int .i64 0, .int .i64 0, .slice none 0 0] (n * 3)) 24)) := fun w1 => by
    have := run_makeSlice w1 22 24 j0 _ Try.underlying22 hj0 jz0 .i64 .i64 n n (by omega) (Int.le_refl _) (by rw [jz1]; simp; omega) (by rw [jz2]; omega) (by omega)
    rw [jz1] at this
    simpa [Value.cells] using this
  have hne : (1 + (x : Int) % 8) = (n : Int) := by omega
  have hms2 : ∀ w1 : World, (Instr.makeSlice 22 (.int .i64 (1 + (x : Int) % 8)) (.int .i64 (1 + (x : Int) % 8))).run Try.prog w1 = .ok (.slice (some ⟨w1.heap.size, 0, none⟩) n n) (w1.alloc (.cells (madeCells #[.int .i64 0, .int .i64 0, .slice none 0 0] (n * 3)) 24)) := fun w1 => by rw [hne]; exact hms w1
  have HNE := Lib.hid hne
  have HN := Lib.hid hn
  have hn8 : 1 ≤ n ∧ n ≤ 8 := by omega
  clear hne hms hn
  clear ha hb hj0 jz0 jz1 jz2
  go_enter Try.func7, Try.ntmps7
  go_wp2_with fail
  obtain ⟨w1, hw1⟩ : ∃ w1, w1 = (w.alloc (.cells #[.int .i64 (kd a), .int .i64 (nm a), .slice pa (ar a).length ca] 24)).alloc (.cells #[.int .i64 (kd b), .int .i64 (nm b), .slice pb (ar b).length cb] 24) := ⟨_, rfl⟩
  have HF1 : Hid (Fr [] w w1) := Lib.hid (by rw [hw1]; exact ((Fr.refl _ _).alloc _).alloc _)
  have HBA1 : Hid (Blk w1 w.heap.size 24 #[.int .i64 (kd a), .int .i64 (nm a), .slice pa (ar a).length ca]) := Lib.hid (by rw [hw1]; exact (Blk.new _ _ _).alloc _)
  have HBB1 : Hid (Blk w1 (w.heap.size + 1) 24 #[.int .i64 (kd b), .int .i64 (nm b), .slice pb (ar b).length cb]) := Lib.hid (by rw [hw1]; exact Blk.new_at (by simp))
  rw [← hw1]
  clear hw1
  refine (head_any w1).mono ?_
  rintro e w2 ⟨rfl, hf⟩
  have HF2 := Lib.hid (HF1.out.trans hf)
  have HBA2 := Lib.hid (HBA1.out.keep hf (by simp))
  have HBB2 := Lib.hid (HBB1.out.keep hf (by simp))
  have x0 : w2.cell? ⟨w.heap.size, 0, none⟩ = some (.int .i64 (kd a)) := HBA2.out.cell 0
  have x1 : w2.cell? ⟨w.heap.size, 1, none⟩ = some (.int .i64 (nm a)) := HBA2.out.cell 1
  have x2 : w2.cell? ⟨w.heap.size, 2, none⟩ = some (.slice pa (ar a).length ca) := HBA2.out.cell 2
  have xl : w.heap.size < w2.heap.size := HBA2.out.lt
  have x3 : w2.cell? ⟨w.heap.size + 1, 0, none⟩ = some (.int .i64 (kd b)) := HBB2.out.cell 0
  have x4 : w2.cell? ⟨w.heap.size + 1, 1, none⟩ = some (.int .i64 (nm b)) := HBB2.out.cell 1
  have x5 : w2.cell? ⟨w.heap.size + 1, 2, none⟩ = some (.slice pb (ar b).length cb) := HBB2.out.cell 2
  have xm : w.heap.size + 1 < w2.heap.size := HBB2.out.lt
  clear hf
  go_wp2_with fail
  clear x0 x1 x2 xl x3 x4 x5 xm
  obtain ⟨ws, hws⟩ : ∃ ws, ws = w2.heap.size := ⟨_, rfl⟩
  obtain ⟨wm, hwm⟩ : ∃ wm, wm = (w2.alloc (.cells (madeCells #[.int .i64 0, .int .i64 0, .slice none 0 0] (n * 3)) 24)).alloc (.cells #[.int .i64 (kd a), .int .i64 (nm a), .slice pa (ar a).length ca, .int .i64 (kd b), .int .i64 (nm b), .slice pb (ar b).length cb] 24) := ⟨_, rfl⟩
  have HFM : Hid (Fr [] w2 wm) := Lib.hid (by rw [hwm]; exact ((Fr.refl [] _).alloc _).alloc _)
  have HWM := Lib.hid (HF2.out.trans HFM.out)
  have HSM : Hid (TysV wm (fun _ => True) (zeros n) (.slice (some ⟨ws, 0, none⟩) n n)) := Lib.hid (by
    have h1 := (ArrV.made w2 (fun _ => True) n).keep0 ((Fr.refl [] _).alloc (.cells #[.int .i64 (kd a), .int .i64 (nm a), .slice pa (ar a).length ca, .int .i64 (kd b), .int .i64 (nm b), .slice pb (ar b).length cb] 24))
    rw [← hwm, ← hws] at h1
    have h2 := h1.tysV (N' := fun _ => True) (by simp; omega) (fun _ _ _ => trivial) trivial
    simpa [zeros] using h2)
  have hlt : TysV wm (fun _ => True) [a, b] (.slice (some ⟨ws + 1, 0, none⟩) 2 2) := newTys (l := [a, b]) (by simp) trivial (by rw [hwm, hws]; exact Blk.new_at (by simp)) (InN.app (HA.out.keep0 HWM.out) (InN.app (cs := [.int .i64 (kd b), .int .i64 (nm b), .slice pb (ar b).length cb]) (ds := []) (HB.out.keep0 HWM.out) (InN.mk_nil _ _)))
  rw [← hwm, ← hws]
  have HBAM := Lib.hid (HBA2.out.keep HFM.out (by simp))
  have HBBM := Lib.hid (HBB2.out.keep HFM.out (by simp))
  have HK : Hid (∀ wx, Fr [] wm wx → wx.cell? ⟨w.heap.size, 0, none⟩ = some (.int .i64 (kd a)) ∧ wx.cell? ⟨w.heap.size, 1, none⟩ = some (.int .i64 (nm a)) ∧ wx.cell? ⟨w.heap.size, 2, none⟩ = some (.slice pa (ar a).length ca) ∧ w.heap.size < wx.heap.size ∧ wx.cell? ⟨w.heap.size + 1, 0, none⟩ = some (.int .i64 (kd b)) ∧ wx.cell? ⟨w.heap.size + 1, 1, none⟩ = some (.int .i64 (nm b)) ∧ wx.cell? ⟨w.heap.size + 1, 2, none⟩ = some (.slice pb (ar b).length cb) ∧ w.heap.size + 1 < wx.heap.size) := Lib.hid (fun wx hf => by
    have h1 := HBAM.out.keep hf (by simp)
    have h2 := HBBM.out.keep hf (by simp)
    exact ⟨h1.cell 0, h1.cell 1, h1.cell 2, h1.lt, h2.cell 0, h2.cell 1, h2.cell 2, h2.lt⟩)
  have HA0 : Hid (∀ wx, Fr [] wm wx → TyV wx (fun _ => True) a [.int .i64 (kd a), .int .i64 (nm a), .slice pa (ar a).length ca]) := Lib.hid (fun wx hf => HA.out.keep0 (HWM.out.trans hf))
  have HB0 : Hid (∀ wx, Fr [] wm wx → TyV wx (fun _ => True) b [.int .i64 (kd b), .int .i64 (nm b), .slice pb (ar b).length cb]) := Lib.hid (fun wx hf => HB.out.keep0 (HWM.out.trans hf))
  have HS0 : Hid (∀ wx, Fr [] wm wx → TysV wx (fun _ => True) (zeros n) (.slice (some ⟨ws, 0, none⟩) n n)) := Lib.hid (fun wx hf => HSM.out.keep0 hf)
  clear hwm hws hms2
  refine (small_any _ [a, b] _ wm hlt).mono ?_
  rintro e wn ⟨rfl, hf⟩
  have HX := Lib.hid hf
  clear hf hlt
  cases hs : small [a, b] with
  | false =>
    obtain ⟨x0, x1, x2, xl, x3, x4, x5, xm⟩ := HK.out wn HX.out
    go_wp2_with fail
    go_ret
    exact ⟨rfl, HWM.out.trans HX.out⟩
  | true =>
    have HS := Lib.hid hs
    clear hs
    obtain ⟨x0, x1, x2, xl, x3, x4, x5, xm⟩ := HK.out wn HX.out
    go_wp2_with fail
    clear x0 x1 x2 xl x3 x4 x5 xm
    refine (inside_any _ n (size a) a (Nat.le_refl _) _ wn (HA0.out wn HX.out)).mono ?_
    rintro e wn ⟨rfl, hf⟩
    have HX := Lib.hid (HX.out.trans hf)
    clear hf
    cases hoa : over n a with
    | false =>
      obtain ⟨x0, x1, x2, xl, x3, x4, x5, xm⟩ := HK.out wn HX.out
      go_wp2_with fail
      go_ret
      exact ⟨rfl, HWM.out.trans HX.out⟩
    | true =>
      have HOA := Lib.hid hoa
      clear hoa
      obtain ⟨x0, x1, x2, xl, x3, x4, x5, xm⟩ := HK.out wn HX.out
      go_wp2_with fail
      clear x0 x1 x2 xl x3 x4 x5 xm
      refine (inside_any _ n (size b) b (Nat.le_refl _) _ wn (HB0.out wn HX.out)).mono ?_
      rintro e wn ⟨rfl, hf⟩
      have HX := Lib.hid (HX.out.trans hf)
      clear hf
      cases hob : over n b with
      | false =>
        obtain ⟨x0, x1, x2, xl, x3, x4, x5, xm⟩ := HK.out wn HX.out
        go_wp2_with fail
        go_ret
        exact ⟨rfl, HWM.out.trans HX.out⟩
      | true =>
        have HOB := Lib.hid hob
        clear hob
        have HSA : Hid (size a ≤ 30) := Lib.hid ((Un.small_size HS.out).1 a (by simp))
        have HSB : Hid (size b ≤ 30) := Lib.hid ((Un.small_size HS.out).1 b (by simp))
        obtain ⟨x0, x1, x2, xl, x3, x4, x5, xm⟩ := HK.out wn HX.out
        go_wp2_with fail
        clear x0 x1 x2 xl x3 x4 x5 xm
        refine (rdepth_any _ (size a) a (Nat.le_refl _) (by have := HSA.out; omega) _ wn (HA0.out wn HX.out)).mono ?_
        rintro e wn ⟨rfl, hf⟩
        have HX := Lib.hid (HX.out.trans hf)
        clear hf
        cases hda : decide (8 < (depth a : Int)) with
        | true =>
          obtain ⟨x0, x1, x2, xl, x3, x4, x5, xm⟩ := HK.out wn HX.out
          go_wp2_with fail
          go_ret
          exact ⟨rfl, HWM.out.trans HX.out⟩
        | false =>
          have HDA : Hid (depth a ≤ 8) := Lib.hid (by simp at hda; omega)
          obtain ⟨x0, x1, x2, xl, x3, x4, x5, xm⟩ := HK.out wn HX.out
          go_wp2_with fail
          clear x0 x1 x2 xl x3 x4 x5 xm
          clear hda
          refine (rdepth_any _ (size b) b (Nat.le_refl _) (by have := HSB.out; omega) _ wn (HB0.out wn HX.out)).mono ?_
          rintro e wn ⟨rfl, hf⟩
          have HX := Lib.hid (HX.out.trans hf)
          clear hf
          cases hdb : decide (8 < (depth b : Int)) with
          | true =>
            obtain ⟨x0, x1, x2, xl, x3, x4, x5, xm⟩ := HK.out wn HX.out
            go_wp2_with fail
            go_ret
            exact ⟨rfl, HWM.out.trans HX.out⟩
          | false =>
            have HDB : Hid (depth b ≤ 8) := Lib.hid (by simp at hdb; omega)
            obtain ⟨x0, x1, x2, xl, x3, x4, x5, xm⟩ := HK.out wn HX.out
            go_wp2_with fail
            clear x0 x1 x2 xl x3 x4 x5 xm
            clear hdb
            obtain ⟨r, hU, hUk, _⟩ := unify_zeros hn8.1 hn8.2 HSA.out HSB.out
            have HUK := Lib.hid hUk
            refine (hU _ _ _ wn (HS0.out wn HX.out) (HA0.out wn HX.out) (HB0.out wn HX.out)).mono ?_
            rintro e wn ⟨v1, rfl, hf⟩
            have HX := Lib.hid (HX.out.trans hf)
            clear hf hU hUk
            obtain ⟨ec, hec⟩ : ∃ ec, ec = ecode r := ⟨_, rfl⟩
            have HEC := Lib.hid hec
            rw [← hec]
            clear hec
            obtain ⟨x0, x1, x2, xl, x3, x4, x5, xm⟩ := HK.out wn HX.out
            go_upto_region 6 with fail
            go_cut [77] (fun s77 wx => s77 = .bool false ∧ wx = wn)
            case first =>
              cases k1 : (kd a != kd b) with
              | false =>
                go_wp2_with fail
                go_meet
                exact ⟨rfl, rfl⟩
              | true =>
                cases k2 : (kd a != 9) with
                | false =>
                  go_wp2_with fail
                  go_meet
                  exact ⟨rfl, rfl⟩
                | true =>
                  cases k3 : (kd b != 9) with
                  | false =>
                    go_wp2_with fail
                    go_meet
                    exact ⟨rfl, rfl⟩
                  | true =>
                    have k4 : (ec != 8) = false := by
                      rw [HEC.out, HUK.out HOA.out HOB.out HDA.out HDB.out (by simpa using k1) (by simpa using k2) (by simpa using k3)]; rfl
                    go_wp2_with fail
                    go_meet
                    exact ⟨rfl, rfl⟩
            case rest =>
            obtain ⟨rfl, rfl⟩ := hcut
            obtain ⟨wn, hwn⟩ : ∃ v : World, v = wc := ⟨_, rfl⟩
            subst hwn
            obtain ⟨k, hk⟩ : ∃ k, k = q % n := ⟨_, rfl⟩
            have hkn : k < n := by rw [hk]; exact Nat.mod_lt _ (by omega)
            have hk1 : (q : Int).tmod (n : Int) = (k : Int) := by rw [hk]; rfl
            have hk2 : (q : Int) % (n : Int) = (k : Int) := by rw [hk]; rfl
            have hn0 : ((n : Int) == 0) = false := by simp; omega
            have hn1 : ¬ (n : Int) = 0 := by omega
            have hn2 : ¬ n = 0 := by omega
            clear hk
            obtain ⟨r2, hU2, _, hU3⟩ := unify_zeros (a := Un.var k) (b := a) hn8.1 hn8.2 (by simp [Un.var, size, sizes]) HSA.out
            have HU3 := Lib.hid (hU3 k hkn rfl HOA.out HDA.out)
            obtain ⟨ec2, hec2⟩ : ∃ ec2, ec2 = ecode r2 := ⟨_, rfl⟩
            rw [← hec2] at hU2
            have HEC2 := Lib.hid hec2
            have HU2 : Hid (∀ wx, Fr [] wm wx → Calls Try.prog 11 #[.slice (some ⟨ws, 0, none⟩) n n, .agg #[.int .i64 9, .int .i64 k, .slice none 0 0], .agg #[.int .i64 (kd a), .int .i64 (nm a), .slice pa (ar a).length ca]] wx fun e w' => ∃ v, e = .returned (.tuple #[v, .int .i64 ec2]) ∧ Fr [] wx w') := Lib.hid (fun wx hf => hU2 _ _ _ wx (HS0.out wx hf) (leafV 9 k wx) (HA0.out wx hf))
            have HXD : Hid (Fr [] wm wn.drew) := Lib.hid (HX.out.trans ((Fr.refl [] wn).drew))
            have HD : Hid (Fr [] wn wn.drew) := Lib.hid ((Fr.refl [] wn).drew)
            clear hU2 hU3 hec2
            go_wp2_with fail
            clear x0 x1 x2 xl x3 x4 x5 xm
            obtain ⟨x0, x1, x2, xl, x3, x4, x5, xm⟩ := HK.out wn.drew HXD.out
            go_cut [14, 15] (fun s14 s15 wx => s15 = .int .i64 ec2 ∧ Fr [] wm wx)
            case first =>
              go_region_law (first | (go_simp; go_at_call 30; refine (v_any _ _).mono ?_; rintro e w5 ⟨rfl, hf5⟩; have HX5 := Lib.hid (HXD.out.trans hf5); obtain ⟨z0, z1, z2, zl, _, _, _, _⟩ := HK.out w5 HX5.out; clear hf5) | (go_simp; go_at_call 11; (with_reducible refine (HU2.out _ HX5.out).mono ?_); rintro e w6 ⟨v6, rfl, hf6⟩; have HX6 := Lib.hid (HX5.out.trans hf6); clear hf6))
              all_goals (try go_wp2_with fail)
              all_goals (go_meet; exact ⟨rfl, HX6.out⟩)
            case rest =>
            obtain ⟨rfl, hf7⟩ := hcut
            obtain ⟨w7, hw7⟩ : ∃ v : World, v = wc := ⟨_, rfl⟩
            subst hw7
            have HX7 := Lib.hid hf7
            clear hf7 x0 x1 x2 xl x3 x4 x5 xm HXD HD
            obtain ⟨x0, x1, x2, xl, x3, x4, x5, xm⟩ := HK.out w7 HX7.out
            cases h9 : (kd a == 9) with
            | true =>
              go_wp2_with fail
              go_ret
              exact ⟨rfl, HWM.out.trans HX7.out⟩
            | false =>
              have HK9 : Hid (kd a ≠ 9) := Lib.hid (by simpa using h9)
              have hok := HOA.out
              go_wp2_with fail
              refine (occurs_any _ _ n k _ (size a) a (Nat.le_refl _) HOA.out _ w7 (HS0.out w7 HX7.out) (HA0.out w7 HX7.out)).mono ?_
              rintro e w8 ⟨rfl, hf8⟩
              have HX8 := Lib.hid (HX7.out.trans hf8)
              clear hf8
              cases ho : occ k a with
              | false =>
                go_wp2_with fail
                go_ret
                exact ⟨rfl, HWM.out.trans HX8.out⟩
              | true =>
                have he : (ec2 == 8) = true := by rw [HEC2.out, HU3.out HK9.out ho]; rfl
                go_wp2_with fail
                go_ret
                exact ⟨rfl, HWM.out.trans HX8.out⟩
end Go.Proofs.Ytkhbgdhgjbnhpaa
