/-
  The walk of endOf, where what a variable has is no variable.
-/
import Derived.Test.YtkhbgdhgjbnhpaaU25
set_option linter.unusedVariables false
set_option linter.unusedSimpArgs false
set_option linter.unusedSectionVars false
namespace Go.Proofs.Ytkhbgdhgjbnhpaa
open Go.RowKit Go.Lib
open Un (kd nm ar size sizes unsolved)

/-- a type of some kind of memory -/
def TypP (N : Nat → Prop) (t : Ty) (w : World) (e : Ending) (w' : World) : Prop := Fr [] w w' ∧ ∃ ds, e = .returned (.agg ds.toArray) ∧ TyV w' N t ds
set_option maxRecDepth 100000 in
set_option maxHeartbeats 3200000 in
theorem endof_any (E : List Ty) (a x : Ty) (v : Value) (cs : List Value) (w : World) (N N' : Nat → Prop) (n : Nat) (hv : TysV w N E v) (h : TyV w N' a cs) (h9 : kd a = 9) (hn : nm a = n) (hx : E[n]? = some x) (hu : unsolved x = false) (hk : kd x ≠ 9) :
    Calls Try.prog 80 #[v, .agg cs.toArray] w (TypP N x w) := by
  obtain ⟨p, c, rfl, _⟩ := h.shape
  have hnl : n < E.length := (List.getElem?_eq_some_iff.1 hx).1
  rcases hv.cases with ⟨rfl, _⟩ | ⟨_, b, o, cap, rfl, hc, hm, hat⟩
  · simp at hnl
  have hlm := hv.len
  unfold maxLen at hlm hm
  obtain ⟨p1, c1, k1, hb, g0, g1, g2⟩ := hat.el (Fr.refl [] w) (by simp) hx
  have K1 := Lib.hid k1
  have HU := Lib.hid hu
  have e4 : decide (n < E.length) = true := by simpa using hnl
  have e5 : decide ((n : Int) < (E.length : Int)) = true := by simp; omega
  have ek : (kd x == 9) = false := by simp [hk]
  have HV := Lib.hid hv
  have HAT : Hid (∀ wr, Fr [] w wr → b < wr.heap.size ∧ wr.cell? ⟨b, o + n * 3, none⟩ = some (.int .i64 (kd x)) ∧ wr.cell? ⟨b, o + n * 3 + 1, none⟩ = some (.int .i64 (nm x)) ∧ wr.cell? ⟨b, o + n * 3 + 2, none⟩ = some (.slice p1 (ar x).length c1)) := Lib.hid (fun wr hf => by
    have hk : ∀ j, wr.cell? ⟨b, j, none⟩ = w.cell? ⟨b, j, none⟩ := fun j => hf.cell hb (by simp) j
    exact ⟨Nat.lt_of_lt_of_le hb hf.size, by rw [hk]; exact g0, by rw [hk]; exact g1, by rw [hk]; exact g2⟩)
  rw [h9, hn]
  obtain ⟨w1, hw1⟩ : ∃ w1, w1 = (w.alloc (.cells #[.int .i64 9, .int .i64 n, .slice p (ar a).length c] 24)).alloc (.cells #[.int .i64 0, .int .i64 0, .slice none 0 0] 24) := ⟨_, rfl⟩
  have HB0 : Hid (Blk w1 w.heap.size 24 #[.int .i64 9, .int .i64 n, .slice p (ar a).length c]) := Lib.hid (by rw [hw1]; exact (Blk.new _ _ _).alloc _)
  have HB1 : Hid (Blk w1 (w.heap.size + 1) 24 #[.int .i64 0, .int .i64 0, .slice none 0 0]) := Lib.hid (by rw [hw1]; exact Blk.new_at (by simp))
  have HF0 : Hid (Fr [] w w1) := Lib.hid (by rw [hw1]; exact ((Fr.refl _ _).alloc _).alloc _)
  clear hv h hat k1 h9 hn hx hu hk g0 g1 g2 hb
  go_enter Try.func80, Try.ntmps80
  go_wp2_with fail
  rw [← hw1]
  clear hw1
  go_loopg [5] 2 (fun gg _ wr => Hid (Fr [] w wr) ∧ Hid (Blk wr (w.heap.size + 1) 24 #[.int .i64 0, .int .i64 0, .slice none 0 0]) ∧ ((gg = 2 ∧ Hid (Blk wr w.heap.size 24 #[.int .i64 9, .int .i64 n, .slice p (ar a).length c])) ∨ (gg = 1 ∧ Hid (Blk wr w.heap.size 24 #[.int .i64 (kd x), .int .i64 (nm x), .slice p1 (ar x).length c1]))))
  case atStart => exact ⟨HF0, HB1, .inl ⟨rfl, HB0⟩⟩
  case round =>
    obtain ⟨HFR, HBR, hcase⟩ := hrel
    have hz0 : w.heap.size < wr.heap.size := by have := HBR.out.lt; omega
    obtain ⟨hb, g0, g1, g2⟩ := HAT.out wr HFR.out
    rcases hcase with ⟨hg, HBX⟩ | ⟨hg, HBX⟩
    · have s0 : wr.cell? ⟨w.heap.size, 0, none⟩ = some (.int .i64 9) := HBX.out.cell 0
      have s1 : wr.cell? ⟨w.heap.size, 1, none⟩ = some (.int .i64 n) := HBX.out.cell 1
      have s2 : wr.cell? ⟨w.heap.size, 2, none⟩ = some (.slice p (ar a).length c) := HBX.out.cell 2
      go_wp2_with fail
      refine (isunsolved_any x _ wr N (K1.out.keep0 HFR.out)).mono ?_
      rw [HU.out]
      rintro e w2 ⟨rfl, hf2⟩
      have HF2 := Lib.hid (HFR.out.trans hf2)
      have HBR2 := Lib.hid (HBR.out.keep hf2 (by simp))
      have HBX2 := Lib.hid (HBX.out.keep hf2 (by simp))
      clear hf2 s0 s1 s2 hb g0 g1 g2 hz0
      have s0 : w2.cell? ⟨w.heap.size, 0, none⟩ = some (.int .i64 9) := HBX2.out.cell 0
      have s1 : w2.cell? ⟨w.heap.size, 1, none⟩ = some (.int .i64 n) := HBX2.out.cell 1
      have s2 : w2.cell? ⟨w.heap.size, 2, none⟩ = some (.slice p (ar a).length c) := HBX2.out.cell 2
      have t0 := HBX2.out.frozen 0
      have t1 := HBX2.out.frozen 1
      have t2 := HBX2.out.frozen 2
      have hz0 : w.heap.size < w2.heap.size := by have := HBR2.out.lt; omega
      obtain ⟨hb, g0, g1, g2⟩ := HAT.out w2 HF2.out
      go_wp2_with fail
      go_roundg 1
      case measure => omega
      case rel => exact ⟨Lib.hid ((HF2.out.set3 (.inr (Nat.le_refl _)) _ _ _).alloc _), Lib.hid ((HBR2.out.keep ((Fr.refl [w.heap.size] _).set3 (b := w.heap.size) (.inl (by simp)) _ _ _) (by simp)).alloc _), .inr ⟨rfl, Lib.hid ((HBX2.out.set3 _ _ _).alloc _)⟩⟩
    · have s0 : wr.cell? ⟨w.heap.size, 0, none⟩ = some (.int .i64 (kd x)) := HBX.out.cell 0
      have s1 : wr.cell? ⟨w.heap.size, 1, none⟩ = some (.int .i64 (nm x)) := HBX.out.cell 1
      have s2 : wr.cell? ⟨w.heap.size, 2, none⟩ = some (.slice p1 (ar x).length c1) := HBX.out.cell 2
      have r0 : wr.cell? ⟨w.heap.size + 1, 0, none⟩ = some (.int .i64 0) := HBR.out.cell 0
      have r1 : wr.cell? ⟨w.heap.size + 1, 1, none⟩ = some (.int .i64 0) := HBR.out.cell 1
      have r2 : wr.cell? ⟨w.heap.size + 1, 2, none⟩ = some (.slice none 0 0) := HBR.out.cell 2
      have t0 := HBR.out.frozen 0
      have t1 := HBR.out.frozen 1
      have t2 := HBR.out.frozen 2
      have hz1 : w.heap.size + 1 < wr.heap.size := HBR.out.lt
      clear hb g0 g1 g2
      go_wp2_with fail
      have hbx := HBR.out.set3 (.int .i64 (kd x)) (.int .i64 (nm x)) (.slice p1 (ar x).length c1)
      have d0 := hbx.cell 0
      have d1 := hbx.cell 1
      have d2 := hbx.cell 2
      refine bodyPost_ret (v := .agg #[.int .i64 (kd x), .int .i64 (nm x), .slice p1 (ar x).length c1]) (by simp [results, Try.results80, go_sem, d0, d1, d2]) rfl ⟨HFR.out.set3 (.inr (by omega)) _ _ _, _, rfl, ?_⟩
      exact (K1.out.keep0 (HFR.out.set3 (.inr (by omega)) _ _ _))
end Go.Proofs.Ytkhbgdhgjbnhpaa
