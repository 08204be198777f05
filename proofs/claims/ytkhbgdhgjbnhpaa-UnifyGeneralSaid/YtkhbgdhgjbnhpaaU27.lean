/-
  The walks of application's closures, where what a variable has is no variable.
-/
import Derived.Test.YtkhbgdhgjbnhpaaU26
set_option linter.unusedVariables false
set_option linter.unusedSimpArgs false
set_option linter.unusedSectionVars false
namespace Go.Proofs.Ytkhbgdhgjbnhpaa
open Go.RowKit Go.Lib
open Un (kd nm ar size sizes unsolved)

namespace Un
/-- what the closure in application says of a part -/
def appStep (E : List Ty) (rec : Ty → Option Ty) (a : Ty) : Option (Unit × Option Ty) :=
  if kd a = 9 then (if 0 ≤ nm a then match E[(nm a).toNat]? with
    | none => none
    | some x => if unsolved x then some ((), none) else if kd x = 9 then none else match rec x with
      | none => none
      | some r => some ((), some r)
    else none)
  else some ((), none)
/-- a substitution is applied; only where what a variable has is no variable -/
def app (E : List Ty) : Nat → Ty → Option Ty
  | 0, _ => none
  | f + 1, t => match mapS (fun (_ : Unit) a => appStep E (app E f) a) () t with
    | none => none
    | some r => some r.2
theorem appStep_cases {E : List Ty} {rec : Ty → Option Ty} {a : Ty} {q : Unit × Option Ty} (h : appStep E rec a = some q) :
    (kd a ≠ 9 ∧ q = ((), none)) ∨ (∃ n x, kd a = 9 ∧ nm a = (n : Nat) ∧ E[n]? = some x ∧ unsolved x = true ∧ q = ((), none)) ∨ (∃ n x r, kd a = 9 ∧ nm a = (n : Nat) ∧ E[n]? = some x ∧ unsolved x = false ∧ kd x ≠ 9 ∧ rec x = some r ∧ q = ((), some r)) := by
  unfold appStep at h
  by_cases h9 : kd a = 9
  · rw [if_pos h9] at h
    by_cases h0 : 0 ≤ nm a
    · rw [if_pos h0] at h
      cases hx : E[(nm a).toNat]? with
      | none => simp [hx] at h
      | some x =>
        rw [hx] at h
        simp only at h
        by_cases hu : unsolved x = true
        · rw [if_pos hu] at h
          exact .inr (.inl ⟨(nm a).toNat, x, h9, by omega, hx, hu, by simpa using h.symm⟩)
        · rw [if_neg hu] at h
          by_cases hk : kd x = 9
          · simp [hk] at h
          · rw [if_neg hk] at h
            cases hr : rec x with
            | none => simp [hr] at h
            | some r =>
              rw [hr] at h
              exact .inr (.inr ⟨(nm a).toNat, x, r, h9, by omega, hx, by simpa using hu, hk, hr, by simpa using h.symm⟩)
    · rw [if_neg h0] at h; cases h
  · rw [if_neg h9] at h
    exact .inl ⟨h9, by simpa using h.symm⟩
end Un
open Un (appStep app)
/-- a substitution that is applied, in memory -/
structure AppV (w : World) (E : List Ty) (v : Value) (pE pA pF : Nat) : Prop where
  e : Blk w pE 22 #[v]
  a : Blk w pA 57 #[.func (.func 81) #[] #[.pointer (some ⟨pF, 0, none⟩)]]
  f : Blk w pF 79 #[.func (.func 79) #[] #[.pointer (some ⟨pE, 0, none⟩), .pointer (some ⟨pA, 0, none⟩)]]
  v : TysV w (fun _ => True) E v
theorem enters_app1 : Enters 79 := fun _ _ => by kernel_rfl
theorem enters_app2 : Enters 81 := fun _ _ => by kernel_rfl
theorem AppV.lat {w1 w : World} {E : List Ty} {v : Value} {pE pA pF : Nat} (h : AppV w1 E v pE pA pF) (hl : Lat w1 w) : AppV w E v pE pA pF := ⟨h.e.lat hl, h.a.lat hl, h.f.lat hl, h.v.lat hl⟩
set_option maxRecDepth 100000 in
set_option maxHeartbeats 3200000 in
theorem app1_any (E : List Ty) (v : Value) (pE pA pF : Nat) (w1 w : World) (hA : AppV w1 E v pE pA pF) (hL : Lat w1 w) (rec : Ty → Option Ty)
    (hrec : ∀ x r, x ∈ E → rec x = some r → ∀ (cs : List Value) (w : World), Lat w1 w → TyV w (fun _ => True) x cs → Calls Try.prog 81 #[.agg cs.toArray, .pointer (some ⟨pF, 0, none⟩)] w (NewP r w))
    (a : Ty) (cs : List Value) (h : TyV w (fun _ => True) a cs) (q : Unit × Option Ty) (hq : appStep E rec a = some q) :
    Calls Try.prog 79 #[.agg cs.toArray, .pointer (some ⟨pE, 0, none⟩), .pointer (some ⟨pA, 0, none⟩)] w (StepP [] (fun (_ : Unit) (w : World) => Lat w1 w) q w) := by
  have hE : ∀ (args : Array Value) (w : World), (callFunc 81 args).run Try.prog w = .ok (.enter 81 args) w := enters_app2
  obtain ⟨p, c, rfl, _⟩ := h.shape
  have HL := Lib.hid hL
  have hA2 := hA.lat hL
  have HA := Lib.hid hA2
  have HT := Lib.hid h
  rcases Un.appStep_cases hq with ⟨h9, rfl⟩ | ⟨n, x, h9, hn, hx, hu, rfl⟩ | ⟨n, x, r, h9, hn, hx, hu, hk, hr, rfl⟩
  · have e1 : (kd a != 9) = true := by simp [h9]
    have HD : Hid (StepP [] (fun (_ : Unit) (w : World) => Lat w1 w) ((), none) w (.returned (.tuple #[.agg #[.int .i64 0, .int .i64 0, .slice none 0 0], .bool false])) ((w.alloc (.cells #[.int .i64 (kd a), .int .i64 (nm a), .slice p (ar a).length c] 24)).alloc (.cells #[.int .i64 0, .int .i64 0, .slice none 0 0] 24))) := by
      have hf : Fr [] w ((w.alloc (.cells #[.int .i64 (kd a), .int .i64 (nm a), .slice p (ar a).length c] 24)).alloc (.cells #[.int .i64 0, .int .i64 0, .slice none 0 0] 24)) := ((Fr.refl _ _).alloc _).alloc _
      exact Lib.hid ⟨hf, hL.fr hf, .inl ⟨rfl, rfl⟩⟩
    clear hA hA2 hL hq h hrec h9
    go_enter Try.func79, Try.ntmps79
    go_wp2_with fail
    exact bodyPost_ret (v := .tuple #[.agg #[.int .i64 0, .int .i64 0, .slice none 0 0], .bool false]) (by simp [results, Try.results79, go_sem]) rfl HD.out
  · have hnl : n < E.length := (List.getElem?_eq_some_iff.1 hx).1
    rcases hA2.v.cases with ⟨rfl, _⟩ | ⟨_, b, o, cap, rfl, hc, hm, hat⟩
    · simp at hnl
    have hlm := hA2.v.len
    unfold maxLen at hlm hm
    obtain ⟨p1, c1, k1, hb, g0, g1, g2⟩ := hat.el (Fr.refl [] w) (by simp) hx
    have K1 := Lib.hid k1
    have HU := Lib.hid hu
    have e4 : decide (n < E.length) = true := by simpa using hnl
    have s0 : w.cell? ⟨pE, 0, none⟩ = some (.slice (some ⟨b, o, none⟩) E.length cap) := hA2.e.cell 0
    have hz : pE < w.heap.size := hA2.e.lt
    rw [h9, hn]
    have HF0 : Hid (Fr [] w ((w.alloc (.cells #[.int .i64 9, .int .i64 n, .slice p (ar a).length c] 24)).alloc (.cells #[.int .i64 0, .int .i64 0, .slice none 0 0] 24))) := Lib.hid (((Fr.refl _ _).alloc _).alloc _)
    have HB1 : Hid (Blk ((w.alloc (.cells #[.int .i64 9, .int .i64 n, .slice p (ar a).length c] 24)).alloc (.cells #[.int .i64 0, .int .i64 0, .slice none 0 0] 24)) (w.heap.size + 1) 24 #[.int .i64 0, .int .i64 0, .slice none 0 0]) := Lib.hid (Blk.new_at (by simp))
    clear hA hA2 hL hq h hrec h9 hn hx hu hat k1
    go_enter Try.func79, Try.ntmps79
    go_wp2_with fail
    refine (isunsolved_any x _ _ (fun _ => True) (K1.out.keep0 HF0.out)).mono ?_
    rw [HU.out]
    rintro e w2 ⟨rfl, hf2⟩
    have HF2 := Lib.hid (HF0.out.trans hf2)
    have HBR2 := Lib.hid (HB1.out.keep hf2 (by simp))
    clear hf2 s0 hz hb g0 g1 g2
    have r0 : w2.cell? ⟨w.heap.size + 1, 0, none⟩ = some (.int .i64 0) := HBR2.out.cell 0
    have r1 : w2.cell? ⟨w.heap.size + 1, 1, none⟩ = some (.int .i64 0) := HBR2.out.cell 1
    have r2 : w2.cell? ⟨w.heap.size + 1, 2, none⟩ = some (.slice none 0 0) := HBR2.out.cell 2
    have t0 := HBR2.out.frozen 0
    have t1 := HBR2.out.frozen 1
    have t2 := HBR2.out.frozen 2
    have hz1 : w.heap.size + 1 < w2.heap.size := HBR2.out.lt
    go_wp2_with fail
    have hbx := HBR2.out.set3 (.int .i64 0) (.int .i64 0) (.slice none 0 0)
    have d0 := hbx.cell 0
    have d1 := hbx.cell 1
    have d2 := hbx.cell 2
    have hf3 := HF2.out.set3 (b := w.heap.size + 1) (.inr (by omega)) (.int .i64 0) (.int .i64 0) (.slice none 0 0)
    exact bodyPost_ret (v := .tuple #[.agg #[.int .i64 0, .int .i64 0, .slice none 0 0], .bool false]) (by simp [results, Try.results79, go_sem, d0, d1, d2]) rfl ⟨hf3, HL.out.fr hf3, .inl ⟨rfl, rfl⟩⟩
  · have hnl : n < E.length := (List.getElem?_eq_some_iff.1 hx).1
    have hmem : x ∈ E := List.mem_of_getElem? hx
    have HR : Hid (∀ (cs : List Value) (w : World), Lat w1 w → TyV w (fun _ => True) x cs → Calls Try.prog 81 #[.agg cs.toArray, .pointer (some ⟨pF, 0, none⟩)] w (NewP r w)) := Lib.hid (hrec x r hmem hr)
    obtain ⟨vv, hvv⟩ : ∃ vv, vv = v := ⟨_, rfl⟩
    rcases hA2.v.cases with ⟨rfl, _⟩ | ⟨_, b, o, cap, heq, hc, hm, hat⟩
    · simp at hnl
    subst heq
    have hlm := hA2.v.len
    unfold maxLen at hlm hm
    obtain ⟨p1, c1, k1, hb, g0, g1, g2⟩ := hat.el (Fr.refl [] w) (by simp) hx
    have K1 := Lib.hid k1
    have HU := Lib.hid hu
    have HX := Lib.hid hx
    have HK := Lib.hid hk
    have H9 := Lib.hid h9
    have HNM := Lib.hid hn
    have e4 : decide (n < E.length) = true := by simpa using hnl
    have s0 : w.cell? ⟨pE, 0, none⟩ = some (.slice (some ⟨b, o, none⟩) E.length cap) := hA2.e.cell 0
    have hz : pE < w.heap.size := hA2.e.lt
    rw [h9, hn] at HT ⊢
    obtain ⟨w0, hw0⟩ : ∃ w0, w0 = (w.alloc (.cells #[.int .i64 9, .int .i64 n, .slice p (ar a).length c] 24)).alloc (.cells #[.int .i64 0, .int .i64 0, .slice none 0 0] 24) := ⟨_, rfl⟩
    have HF0 : Hid (Fr [] w w0) := Lib.hid (by rw [hw0]; exact ((Fr.refl _ _).alloc _).alloc _)
    have HB0 : Hid (Blk w0 w.heap.size 24 #[.int .i64 9, .int .i64 n, .slice p (ar a).length c]) := Lib.hid (by rw [hw0]; exact (Blk.new _ _ _).alloc _)
    have HB1 : Hid (Blk w0 (w.heap.size + 1) 24 #[.int .i64 0, .int .i64 0, .slice none 0 0]) := Lib.hid (by rw [hw0]; exact Blk.new_at (by simp))
    clear hA hA2 hL hq h hrec h9 hn hx hu hat k1 hk hr hmem hvv
    go_enter Try.func79, Try.ntmps79
    go_wp2_with fail
    rw [← hw0]
    clear hw0
    refine (isunsolved_any x _ _ (fun _ => True) (K1.out.keep0 HF0.out)).mono ?_
    rw [HU.out]
    rintro e w2 ⟨rfl, hf2⟩
    have HF2 := Lib.hid (HF0.out.trans hf2)
    have HBX2 := Lib.hid (HB0.out.keep hf2 (by simp))
    have HBR2 := Lib.hid (HB1.out.keep hf2 (by simp))
    have HA2 := Lib.hid (HA.out.lat HF2.out.lat)
    clear hf2 s0 hz hb g0 g1 g2
    have r0 : w2.cell? ⟨w.heap.size, 0, none⟩ = some (.int .i64 9) := HBX2.out.cell 0
    have r1 : w2.cell? ⟨w.heap.size, 1, none⟩ = some (.int .i64 n) := HBX2.out.cell 1
    have r2 : w2.cell? ⟨w.heap.size, 2, none⟩ = some (.slice p (ar a).length c) := HBX2.out.cell 2
    have q0 : w2.cell? ⟨pE, 0, none⟩ = some (.slice (some ⟨b, o, none⟩) E.length cap) := HA2.out.e.cell 0
    have q1 : w2.cell? ⟨pA, 0, none⟩ = some (.func (.func 81) #[] #[.pointer (some ⟨pF, 0, none⟩)]) := HA2.out.a.cell 0
    have l0 : w.heap.size < w2.heap.size := HBX2.out.lt
    have l1 : pE < w2.heap.size := HA2.out.e.lt
    have l2 : pA < w2.heap.size := HA2.out.a.lt
    have l3 : w.heap.size + 1 < w2.heap.size := HBR2.out.lt
    have d0 : w2.drew.cell? ⟨w.heap.size, 0, none⟩ = some (.int .i64 9) := r0
    have d1 : w2.drew.cell? ⟨w.heap.size, 1, none⟩ = some (.int .i64 n) := r1
    have d2 : w2.drew.cell? ⟨w.heap.size, 2, none⟩ = some (.slice p (ar a).length c) := r2
    have d3 : w2.drew.cell? ⟨pE, 0, none⟩ = some (.slice (some ⟨b, o, none⟩) E.length cap) := q0
    have d4 : w2.drew.cell? ⟨pA, 0, none⟩ = some (.func (.func 81) #[] #[.pointer (some ⟨pF, 0, none⟩)]) := q1
    have m0 : w.heap.size < w2.drew.heap.size := l0
    have m1 : pE < w2.drew.heap.size := l1
    have m2 : pA < w2.drew.heap.size := l2
    have HD2 : Hid (Fr [] w w2.drew) := Lib.hid HF2.out.drew
    have HTD : Hid (TyV w2.drew (fun _ => True) a [.int .i64 9, .int .i64 n, .slice p (ar a).length c]) := Lib.hid (HT.out.keep0 HD2.out)
    have HVD : Hid (TysV w2.drew (fun _ => True) E (.slice (some ⟨b, o, none⟩) E.length cap)) := Lib.hid (HA.out.v.keep0 HD2.out)
    have HFA : Hid (∀ w3, Fr [] w2.drew w3 → w3.cell? ⟨pA, 0, none⟩ = some (.func (.func 81) #[] #[.pointer (some ⟨pF, 0, none⟩)]) ∧ pA < w3.heap.size ∧ Lat w1 w3) := Lib.hid (fun w3 hf => ⟨by rw [hf.cell (by exact l2) (by simp)]; exact q1, Nat.lt_of_lt_of_le l2 hf.size, HL.out.fr (HD2.out.trans hf)⟩)
    have HFB : Hid (∀ w4, Fr [] w2.drew w4 → Blk w4 (w.heap.size + 1) 24 #[.int .i64 0, .int .i64 0, .slice none 0 0]) := Lib.hid (fun w4 hf => HBR2.out.keep (X := []) ((Fr.refl [] w2).drew.trans hf) (by simp))
    go_wp2_with fail
    go_region_law (first | (go_simp; go_at_call 80; refine (endof_any E a x _ _ _ (fun _ => True) (fun _ => True) n HVD.out HTD.out H9.out HNM.out HX.out HU.out HK.out).mono ?_; rintro e w3 ⟨hf3, ds, rfl, hty⟩; obtain ⟨p3, c3, rfl, _⟩ := hty.shape; have HF3 := Lib.hid hf3; have HT3 := Lib.hid hty; obtain ⟨a1, a2, a3⟩ := HFA.out w3 hf3; have HL3 := Lib.hid a3; clear hf3 hty a3) | (go_simp; go_at_call 81; refine (HR.out _ _ HL3.out HT3.out).mono ?_; rintro e w4 ⟨hf4, ds, rfl, hty⟩; obtain ⟨p4, c4, rfl, _⟩ := hty.shape; have HF4 := Lib.hid (HF3.out.trans hf4); have HT4 := Lib.hid (TyV.weak (N' := fun k => w.heap.size + 2 ≤ k) hty (fun k hk h => by have h1 := HF3.out.size; have h2 := l3; have h3 : w3.heap.size ≤ k := h; have h4 : w2.drew.heap.size = w2.heap.size := rfl; omega)); have HB4 := Lib.hid (HFB.out w4 HF4.out); have x0 := HB4.out.cell 0; have x1 := HB4.out.cell 1; have x2 := HB4.out.cell 2; have y0 := HB4.out.frozen 0; have y1 := HB4.out.frozen 1; have y2 := HB4.out.frozen 2; have z0 := HB4.out.lt; clear hf4 hty))
    all_goals
      have hbx := HB4.out.set3 (.int .i64 (kd r)) (.int .i64 (nm r)) (.slice p4 (ar r).length c4)
      have HY0 := Lib.hid (hbx.cell 0)
      have HY1 := Lib.hid (hbx.cell 1)
      have HY2 := Lib.hid (hbx.cell 2)
      have hf5 := (HD2.out.trans HF4.out).set3 (b := w.heap.size + 1) (.inr (by omega)) (.int .i64 (kd r)) (.int .i64 (nm r)) (.slice p4 (ar r).length c4)
      have HF5 := Lib.hid hf5
      have HT5 : Hid (TyV (((w4.setCell ⟨w.heap.size + 1, 0, none⟩ (.int .i64 (kd r))).setCell ⟨w.heap.size + 1, 1, none⟩ (.int .i64 (nm r))).setCell ⟨w.heap.size + 1, 2, none⟩ (.slice p4 (ar r).length c4)) (fun k => w.heap.size ≤ k) r [.int .i64 (kd r), .int .i64 (nm r), .slice p4 (ar r).length c4]) := Lib.hid (HT4.out.mono (fun k hk hl => ⟨by omega, by simpa [World.setCell] using hl, set3_block _ _ _ (by omega)⟩))
      clear hbx hf5 x0 x1 x2 y0 y1 y2 z0
      go_wp2_with fail
      have d0 := HY0.out
      have d1 := HY1.out
      have d2 := HY2.out
      exact bodyPost_ret (v := .tuple #[.agg #[.int .i64 (kd r), .int .i64 (nm r), .slice p4 (ar r).length c4], .bool true]) (by simp [results, Try.results79, go_sem, d0, d1, d2]) rfl ⟨HF5.out, HL.out.fr HF5.out, .inr ⟨r, _, rfl, rfl, HT5.out⟩⟩
end Go.Proofs.Ytkhbgdhgjbnhpaa
