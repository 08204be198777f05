/-
  The walk of Apply.
-/
import Derived.Test.YtkhbgdhgjbnhpaaU40
set_option linter.unusedVariables false
set_option linter.unusedSimpArgs false
set_option linter.unusedSectionVars false
namespace Go.Proofs.Ytkhbgdhgjbnhpaa
open Go.RowKit Go.Lib
open Un (kd nm ar size sizes element over app)

/-- what Apply answers -/
def Un.applyTo (s : List Ty) (t : Ty) : Option Ty := match Un.wf s with
  | none => none
  | some false => some Un.zero
  | some true => if over s.length t = true then app s 12 t else some Un.zero
set_option maxRecDepth 100000 in
set_option maxHeartbeats 3200000 in
theorem applyTo_any (N : Nat → Prop) (s : List Ty) (v : Value) (t : Ty) (cs : List Value) (w : World) (hv : TysV w N s v) (h0 : 0 < s.length) (hl : s.length ≤ 900) (hs : ∀ t ∈ s, size t ≤ 90000) (ht : TyV w N t cs) (hst : size t ≤ 90000) (r : Ty) (hr : Un.applyTo s t = some r) :
    Calls Try.prog 19 #[v, .agg cs.toArray] w (TypP (fun _ => True) r w) := by
  obtain ⟨pt, kt, rfl, _⟩ := ht.shape
  obtain ⟨ps, kp, rfl⟩ := hv.shape
  have HV := Lib.hid hv
  have HT := Lib.hid ht
  have HR := Lib.hid hr
  have HS := Lib.hid hs
  obtain ⟨w1, hw1⟩ : ∃ w1, w1 = (w.alloc (.cells #[.int .i64 (kd t), .int .i64 (nm t), .slice pt (ar t).length kt] 24)).alloc (.cells #[.int .i64 0, .int .i64 0, .slice none 0 0] 24) := ⟨_, rfl⟩
  have HF1 : Hid (Fr [] w w1) := Lib.hid (by rw [hw1]; exact ((Fr.refl _ _).alloc _).alloc _)
  have HBT1 : Hid (Blk w1 w.heap.size 24 #[.int .i64 (kd t), .int .i64 (nm t), .slice pt (ar t).length kt]) := Lib.hid (by rw [hw1]; exact (Blk.new _ _ _).alloc _)
  have HBR1 : Hid (Blk w1 (w.heap.size + 1) 24 #[.int .i64 0, .int .i64 0, .slice none 0 0]) := Lib.hid (by rw [hw1]; exact Blk.new_at (by simp))
  clear hv ht hr hs
  obtain ⟨wb, hwb⟩ : ∃ wb, Un.wf s = some wb := by
    have h1 := HR.out
    unfold Un.applyTo at h1
    cases h : Un.wf s with
    | none => rw [h] at h1; cases h1
    | some b => exact ⟨b, rfl⟩
  have HWB := Lib.hid hwb
  clear hwb
  go_enter Try.func19, Try.ntmps19
  go_wp2_with fail
  rw [← hw1]
  clear hw1
  refine (wf_any N s _ w1 (HV.out.keep0 HF1.out) (by omega) HS.out wb HWB.out).mono ?_
  rintro e w2 ⟨rfl, hf2⟩
  have HF2 := Lib.hid (HF1.out.trans hf2)
  have HBT2 := Lib.hid (HBT1.out.keep hf2 (by simp))
  have HBR2 := Lib.hid (HBR1.out.keep hf2 (by simp))
  clear hf2 HBT1 HBR1
  cases wb with
  | false =>
    have HZ : Hid (r = Un.zero) := Lib.hid (by
      have h1 := HR.out
      unfold Un.applyTo at h1
      rw [HWB.out] at h1
      simpa using h1.symm)
    have d0 := HBR2.out.cell 0
    have d1 := HBR2.out.cell 1
    have d2 := HBR2.out.cell 2
    have f0 := HBR2.out.frozen 0
    have f1 := HBR2.out.frozen 1
    have f2 := HBR2.out.frozen 2
    have fl := HBR2.out.lt
    go_wp2_with fail
    have hbx := HBR2.out.set3 (.int .i64 0) (.int .i64 0) (.slice none 0 0)
    have e0 := hbx.cell 0
    have e1 := hbx.cell 1
    have e2 := hbx.cell 2
    have hf3 := HF2.out.set3 (b := w.heap.size + 1) (.inr (by omega)) (.int .i64 0) (.int .i64 0) (.slice none 0 0)
    rw [HZ.out]
    exact bodyPost_ret (v := .agg #[.int .i64 0, .int .i64 0, .slice none 0 0]) (by simp [results, Try.results19, go_sem, e0, e1, e2]) rfl ⟨hf3, _, rfl, TyV.mk (TysV.nil _ _)⟩
  | true =>
    have c0 : w2.cell? ⟨w.heap.size, 0, none⟩ = some (.int .i64 (kd t)) := HBT2.out.cell 0
    have c1 : w2.cell? ⟨w.heap.size, 1, none⟩ = some (.int .i64 (nm t)) := HBT2.out.cell 1
    have c2 : w2.cell? ⟨w.heap.size, 2, none⟩ = some (.slice pt (ar t).length kt) := HBT2.out.cell 2
    have cl : w.heap.size < w2.heap.size := HBT2.out.lt
    go_wp2_with fail
    refine (over_any N s (by omega) ps kp (size t) t (Nat.le_refl _) _ w2 (HT.out.keep0 HF2.out)).mono ?_
    rintro e w3 ⟨rfl, hf3⟩
    have HF3 := Lib.hid (HF2.out.trans hf3)
    have HBT3 := Lib.hid (HBT2.out.keep hf3 (by simp))
    have HBR3 := Lib.hid (HBR2.out.keep hf3 (by simp))
    clear hf3 c0 c1 c2 cl HBT2 HBR2
    cases e1 : over s.length t with
    | false =>
      have HZ : Hid (r = Un.zero) := Lib.hid (by
        have h1 := HR.out
        unfold Un.applyTo at h1
        rw [HWB.out] at h1
        simp only [e1] at h1
        simpa using h1.symm)
      clear e1
      have d0 := HBR3.out.cell 0
      have d1 := HBR3.out.cell 1
      have d2 := HBR3.out.cell 2
      have f0 := HBR3.out.frozen 0
      have f1 := HBR3.out.frozen 1
      have f2 := HBR3.out.frozen 2
      have fl := HBR3.out.lt
      go_wp2_with fail
      have hbx := HBR3.out.set3 (.int .i64 0) (.int .i64 0) (.slice none 0 0)
      have e0 := hbx.cell 0
      have e1 := hbx.cell 1
      have e2 := hbx.cell 2
      have hf3 := HF3.out.set3 (b := w.heap.size + 1) (.inr (by omega)) (.int .i64 0) (.int .i64 0) (.slice none 0 0)
      rw [HZ.out]
      exact bodyPost_ret (v := .agg #[.int .i64 0, .int .i64 0, .slice none 0 0]) (by simp [results, Try.results19, go_sem, e0, e1, e2]) rfl ⟨hf3, _, rfl, TyV.mk (TysV.nil _ _)⟩
    | true =>
      have HAP : Hid (app s 12 t = some r) := Lib.hid (by
        have h1 := HR.out
        unfold Un.applyTo at h1
        rw [HWB.out] at h1
        simp only [e1] at h1
        simpa using h1)
      clear e1
      have r0 : w3.cell? ⟨w.heap.size, 0, none⟩ = some (.int .i64 (kd t)) := HBT3.out.cell 0
      have r1 : w3.cell? ⟨w.heap.size, 1, none⟩ = some (.int .i64 (nm t)) := HBT3.out.cell 1
      have r2 : w3.cell? ⟨w.heap.size, 2, none⟩ = some (.slice pt (ar t).length kt) := HBT3.out.cell 2
      have d0 : w3.drew.cell? ⟨w.heap.size, 0, none⟩ = some (.int .i64 (kd t)) := r0
      have d1 : w3.drew.cell? ⟨w.heap.size, 1, none⟩ = some (.int .i64 (nm t)) := r1
      have d2 : w3.drew.cell? ⟨w.heap.size, 2, none⟩ = some (.slice pt (ar t).length kt) := r2
      have l0 : w.heap.size < w3.heap.size := HBT3.out.lt
      have m0 : w.heap.size < w3.drew.heap.size := l0
      have HD3 : Hid (Fr [] w w3.drew) := Lib.hid HF3.out.drew
      have HVD : Hid (TysV w3.drew (fun _ => True) s (.slice ps s.length kp)) := Lib.hid ((TysV.weak (N' := fun _ => True) HV.out (fun _ _ _ => trivial)).keep0 HD3.out)
      have HTD : Hid (TyV w3.drew (fun _ => True) t [.int .i64 (kd t), .int .i64 (nm t), .slice pt (ar t).length kt]) := Lib.hid ((TyV.weak (N' := fun _ => True) HT.out (fun _ _ _ => trivial)).keep0 HD3.out)
      have HSB : Hid (∀ x ∈ s, size x ≤ 100000) := Lib.hid (fun x hx => by have := HS.out x hx; omega)
      have HCE : Hid (∀ wx, Fr [] w3.drew wx → wx.cell? ⟨w.heap.size, 0, none⟩ = some (.int .i64 (kd t)) ∧ wx.cell? ⟨w.heap.size, 1, none⟩ = some (.int .i64 (nm t)) ∧ wx.cell? ⟨w.heap.size, 2, none⟩ = some (.slice pt (ar t).length kt) ∧ w.heap.size < wx.heap.size) := Lib.hid (fun wx hf => ⟨by rw [hf.cell m0 (by simp)]; exact d0, by rw [hf.cell m0 (by simp)]; exact d1, by rw [hf.cell m0 (by simp)]; exact d2, Nat.lt_of_lt_of_le m0 hf.size⟩)
      have HRB : Hid (∀ wx, Fr [] w3.drew wx → Blk wx (w.heap.size + 1) 24 #[.int .i64 0, .int .i64 0, .slice none 0 0]) := Lib.hid (fun wx hf => HBR3.out.keep (X := []) ((Fr.refl [] w3).drew.trans hf) (by simp))
      go_wp2_with fail
      go_region_law (first | (go_simp; go_at_call 55; refine (application_any s _ _ HVD.out h0 (by omega)).mono ?_; rintro e w4 ⟨pE, pA, pF, v4, rfl, hA4, hf4⟩; have HA4 := Lib.hid hA4; have HF4 := Lib.hid hf4; obtain ⟨q0, q1, q2, q3⟩ := HCE.out w4 hf4; have HT4 := Lib.hid (HTD.out.keep0 hf4); clear hA4 hf4) | (go_simp; go_at_call 81; refine (apply_any s _ _ _ _ _ HA4.out HSB.out 12 t r HAP.out (by omega) _ _ (Lat.refl _) HT4.out).mono ?_; rintro e w5 ⟨hf5, ds, rfl, hty⟩; obtain ⟨p5, c5, rfl, _⟩ := hty.shape; have HF5 := Lib.hid (HF4.out.trans hf5); have hz4 : w.heap.size + 1 < w4.heap.size := (HRB.out w4 HF4.out).lt; have HT5 := Lib.hid (TyV.weak (N' := fun k => k ≠ w.heap.size + 1) hty (fun k hk h => by (have h3 : w4.heap.size ≤ k := h); omega)); have HB5 := Lib.hid (HRB.out w5 HF5.out); have x0 := HB5.out.cell 0; have x1 := HB5.out.cell 1; have x2 := HB5.out.cell 2; have y0 := HB5.out.frozen 0; have y1 := HB5.out.frozen 1; have y2 := HB5.out.frozen 2; have z0 := HB5.out.lt; clear hf5 hty hz4))
      all_goals
        have hbx := HB5.out.set3 (.int .i64 (kd r)) (.int .i64 (nm r)) (.slice p5 (ar r).length c5)
        have HY0 := Lib.hid (hbx.cell 0)
        have HY1 := Lib.hid (hbx.cell 1)
        have HY2 := Lib.hid (hbx.cell 2)
        have hf6 := (HD3.out.trans HF5.out).set3 (b := w.heap.size + 1) (.inr (by omega)) (.int .i64 (kd r)) (.int .i64 (nm r)) (.slice p5 (ar r).length c5)
        have HF6 := Lib.hid hf6
        have HT6 : Hid (TyV (((w5.setCell ⟨w.heap.size + 1, 0, none⟩ (.int .i64 (kd r))).setCell ⟨w.heap.size + 1, 1, none⟩ (.int .i64 (nm r))).setCell ⟨w.heap.size + 1, 2, none⟩ (.slice p5 (ar r).length c5)) (fun _ => True) r [.int .i64 (kd r), .int .i64 (nm r), .slice p5 (ar r).length c5]) := Lib.hid (HT5.out.mono (fun k hk hl => ⟨trivial, by simpa [World.setCell] using hl, set3_block _ _ _ hk⟩))
        clear hbx hf6 x0 x1 x2 y0 y1 y2 z0
        go_wp2_with fail
        have d0 := HY0.out
        have d1 := HY1.out
        have d2 := HY2.out
        exact bodyPost_ret (v := .agg #[.int .i64 (kd r), .int .i64 (nm r), .slice p5 (ar r).length c5]) (by simp [results, Try.results19, go_sem, d0, d1, d2]) rfl ⟨HF6.out, _, rfl, HT6.out⟩
end Go.Proofs.Ytkhbgdhgjbnhpaa
