/-
  The walk of Valid.
-/
import Derived.Test.YtkhbgdhgjbnhpaaU13
set_option linter.unusedVariables false
set_option linter.unusedSimpArgs false
set_option linter.unusedSectionVars false
namespace Go.Proofs.Ytkhbgdhgjbnhpaa
open Go.RowKit Go.Lib
open Un (kd nm ar size sizes acc accs fits valid)

/-- a program, of which the data types matter -/
def ProgV (w : World) (N : Nat → Prop) (ds : List Int) (cs : List Value) : Prop :=
  ∃ p0 n0 c0 p1 n1 c1 dv p3 n3 c3 p4 n4 c4 p5 n5 c5 p6 n6 c6 m, cs = [.slice p0 n0 c0, .slice p1 n1 c1, dv, .slice p3 n3 c3, .slice p4 n4 c4, .slice p5 n5 c5, .slice p6 n6 c6, .int .i64 m] ∧ DatasV w N ds dv
theorem ProgV.keep0 {w w' : World} {N : Nat → Prop} {ds : List Int} {cs : List Value} (h : ProgV w N ds cs) (hf : Fr [] w w') : ProgV w' N ds cs := by
  obtain ⟨p0, n0, c0, p1, n1, c1, dv, p3, n3, c3, p4, n4, c4, p5, n5, c5, p6, n6, c6, m, e, h⟩ := h
  exact ⟨p0, n0, c0, p1, n1, c1, dv, p3, n3, c3, p4, n4, c4, p5, n5, c5, p6, n6, c6, m, e, InN.keep0 h hf⟩
set_option maxRecDepth 100000 in
set_option maxHeartbeats 3200000 in
theorem valid_any (ds : List Int) (p : Int) (N N' : Nat → Prop) (ps cs : List Value) (t : Ty) (w : World) (hp : ProgV w N' ds ps) (h : TyV w N t cs) :
    Calls Try.prog 21 #[.agg ps.toArray, .int .i64 p, .agg cs.toArray] w (LookP (valid ds p t) w) := by
  obtain ⟨p0, n0, c0, p1, n1, c1, dv, p3, n3, c3, p4, n4, c4, p5, n5, c5, p6, n6, c6, m, rfl, hd⟩ := hp
  have HD := Lib.hid hd
  have HT := Lib.hid h
  obtain ⟨pd, cd, rfl⟩ := hd.shape
  obtain ⟨pt, ct, rfl, hat⟩ := h.shape
  obtain ⟨V, hV⟩ : ∃ V, V = valid ds p t := ⟨_, rfl⟩
  rw [← hV]
  have HV := Lib.hid hV
  obtain ⟨w1, hw1⟩ : ∃ w1, w1 = ((w.alloc (.cells #[.slice p0 n0 c0, .slice p1 n1 c1, .slice pd ds.length cd, .slice p3 n3 c3, .slice p4 n4 c4, .slice p5 n5 c5, .slice p6 n6 c6, .int .i64 m] 32)).alloc (.cells #[.int .i64 (kd t), .int .i64 (nm t), .slice pt (ar t).length ct] 24)).alloc (.cells #[.slice pd ds.length cd, .int .i64 p] 83) := ⟨_, rfl⟩
  have HF0 : Hid (Fr [] w w1) := Lib.hid (by rw [hw1]; exact (((Fr.refl _ _).alloc _).alloc _).alloc _)
  have HB0 : Hid (Blk w1 (w.heap.size + 1 + 1) 83 #[.slice pd ds.length cd, .int .i64 p]) := Lib.hid (by rw [hw1]; exact Blk.new_at (by simp))
  clear hd h hat hV
  have HSC : Hid (ScV w1 N' (w.heap.size + 1 + 1) ds p (.slice pd ds.length cd)) := Lib.hid ⟨HB0.out, InN.keep0 HD.out HF0.out⟩
  have HC := Lib.hid (accepts_any ds p N N' (w.heap.size + 1 + 1) _ (size t) t (Nat.le_refl _) 8 (by omega) (by omega) _ w1 HSC.out (HT.out.keep0 HF0.out))
  cases e1 : decide (0 ≤ p) with
  | false =>
    have HE : Hid (V = false) := Lib.hid (by rw [HV.out]; unfold valid; rw [e1]; rfl)
    go_enter Try.func21, Try.ntmps21
    go_wp2_with fail
    go_ret
    exact ⟨by rw [HE.out]; rfl, by rw [← hw1]; exact HF0.out⟩
  | true =>
    cases e2 : decide (p ≤ 4) with
    | false =>
      have HE : Hid (V = false) := Lib.hid (by rw [HV.out]; unfold valid; rw [e1, e2]; rfl)
      go_enter Try.func21, Try.ntmps21
      go_wp2_with fail
      go_ret
      exact ⟨by rw [HE.out]; rfl, by rw [← hw1]; exact HF0.out⟩
    | true =>
      have HE : Hid (V = acc ds p 8 t) := Lib.hid (by rw [HV.out]; unfold valid; rw [e1, e2]; rfl)
      go_enter Try.func21, Try.ntmps21
      go_wp2_with fail
      rw [← hw1]
      clear hw1
      refine HC.out.mono ?_
      rintro e w2 ⟨rfl, hf2⟩
      have HF2 := Lib.hid (HF0.out.trans hf2)
      clear hf2
      go_wp2_with fail
      go_ret
      exact ⟨by rw [HE.out]; rfl, HF2.out⟩
end Go.Proofs.Ytkhbgdhgjbnhpaa
