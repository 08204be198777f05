/-
  The walks of slices.Grow of nothing, and of slices.IndexFunc and slices.ContainsFunc over lists of types.
-/
import Derived.Test.YtkhbgdhgjbnhpaaU3
import Derived.Lib.AppendZerosOnto
import Derived.Lib.Walk
import Derived.Lib.SliceRun
import Derived.Shelf.Spec.SlicesGrow
set_option linter.unusedVariables false
set_option linter.unusedSimpArgs false
set_option linter.unusedSectionVars false
namespace Go.Proofs.Ytkhbgdhgjbnhpaa
open Go.RowKit Go.Lib
open Un (kd nm ar)

def GrowP (E s : Nat) (w : World) (e : Ending) (w' : World) : Prop := ∃ v, e = .returned v ∧ (∀ N, OwnL w' N w.heap.size E s 0 .nil v) ∧ Fr [] w w'
theorem growP_new (w : World) (E s n cap : Nat) (z : Array Value) (hz : z.size = s) (h1 : n ≤ cap) (h2 : cap ≤ maxLen) :
    GrowP E s w (.returned (.slice (some ⟨w.heap.size, 0, none⟩) 0 cap)) (w.alloc (.cells (Builtin.zeroCells z n ++ Builtin.zeroCells z (cap - n)) E)).drew := by
  refine ⟨_, rfl, fun N => ⟨[], ⟨by simp, .inr ⟨w.heap.size, cap, _, rfl, Nat.le_refl _, alloc_new w _, Nat.zero_le _, h2, ?_, by simp⟩⟩, by rw [InN]⟩, ((Fr.refl _ _).alloc _).drew⟩
  simp only [Array.size_append, size_zeroCells]
  rw [hz, ← Nat.add_mul, show n + (cap - n) = cap by omega]
set_option maxRecDepth 100000 in
set_option maxHeartbeats 1600000 in
theorem grow_ty (n : Nat) (w : World) (hn : n ≤ 1000000) : Calls Try.prog 75 #[.slice none 0 0, .int .i64 n] w (GrowP 24 3 w) := by
  obtain ⟨i0, hi, hz0, hz1, hz2⟩ := info_parts info_ty
  by_cases h0 : n = 0
  · subst h0
    go_enter Try.func75, Try.ntmps75
    go_wp2_with fail
    go_ret
    exact ⟨_, rfl, fun N => OwnL.nil _ _ _ _ _, Fr.refl _ _⟩
  · have hfit : Builtin.nextslicecap (0 + n) 0 * i0.bytes ≤ 281474976710656 := growslice_fits (by omega) (by rw [hz2]; omega)
    have hrz : ∀ ty, (Builtin.append_ #[22, 3] ty #[.slice none 0 0, .int .i64 n]).run Try.prog w =
        .ok (.slice (some ⟨w.heap.size, 0, none⟩) n (grownCap w n 0 24)) (w.drew.alloc (.cells (#[] ++ Builtin.zeroCells (Value.agg #[.int .i64 0, .int .i64 0, .slice none 0 0]).cells n ++ Builtin.zeroCells (Value.agg #[.int .i64 0, .int .i64 0, .slice none 0 0]).cells (grownCap w n 0 24 - n)) 24)) := fun ty => by
      have h := Lib.run_append_grow_zeros (P := Try.prog) w 22 3 ty 24 i0 _ .i64 .i64 Try.underlying22 Try.underlying3 hi hz0 none 0 0 [] (run_firstCells_none w.drew i0.size 0 0 0) n (by omega) (by omega) (by omega) (by omega) (by rw [hz2]; omega) hfit
      rw [Nat.zero_add] at h
      exact h
    have hge := grownCap_ge w n 0 24
    have hle := grownCap_le_maxLen w n 0 24 (by unfold maxLen; omega)
    obtain ⟨G, hG⟩ : ∃ G, G = grownCap w n 0 24 := ⟨_, rfl⟩
    rw [← hG] at hrz hge hle
    have HP := Lib.hid (growP_new w 24 3 n G #[.int .i64 0, .int .i64 0, .slice none 0 0] rfl hge hle)
    unfold maxLen at hle
    have hpos : decide ((n : Int) > 0) = true := by simp; omega
    clear hG hfit
    go_enter Try.func75, Try.ntmps75
    go_wp2_with (at_builtin; refine Lib.wpList_append_run _ rfl _ _ _ _ rfl _ _ rfl rfl _ _ (hrz _) ?_)
    all_goals (go_ret; exact HP.out)
set_option maxRecDepth 100000 in
set_option maxHeartbeats 1600000 in
theorem grow_int (n : Nat) (w : World) (hn : n ≤ 1000000) : Calls Try.prog 90 #[.slice none 0 0, .int .i64 n] w (GrowP 3 1 w) := by
  obtain ⟨i0, hi, hz0, hz1, hz2⟩ := info_parts info_int
  by_cases h0 : n = 0
  · subst h0
    go_enter Try.func90, Try.ntmps90
    go_wp2_with fail
    go_ret
    exact ⟨_, rfl, fun N => OwnL.nil _ _ _ _ _, Fr.refl _ _⟩
  · have hfit : Builtin.nextslicecap (0 + n) 0 * i0.bytes ≤ 281474976710656 := growslice_fits (by omega) (by rw [hz2]; omega)
    have hrz : ∀ ty, (Builtin.append_ #[28, 3] ty #[.slice none 0 0, .int .i64 n]).run Try.prog w =
        .ok (.slice (some ⟨w.heap.size, 0, none⟩) n (grownCap w n 0 3)) (w.drew.alloc (.cells (#[] ++ Builtin.zeroCells (Value.int .i64 0).cells n ++ Builtin.zeroCells (Value.int .i64 0).cells (grownCap w n 0 3 - n)) 3)) := fun ty => by
      have h := Lib.run_append_grow_zeros (P := Try.prog) w 28 3 ty 3 i0 _ .i64 .i64 Try.underlying28 Try.underlying3 hi hz0 none 0 0 [] (run_firstCells_none w.drew i0.size 0 0 0) n (by omega) (by omega) (by omega) (by omega) (by rw [hz2]; omega) hfit
      rw [Nat.zero_add] at h
      exact h
    have hge := grownCap_ge w n 0 3
    have hle := grownCap_le_maxLen w n 0 3 (by unfold maxLen; omega)
    obtain ⟨G, hG⟩ : ∃ G, G = grownCap w n 0 3 := ⟨_, rfl⟩
    rw [← hG] at hrz hge hle
    have HP := Lib.hid (growP_new w 3 1 n G #[.int .i64 0] rfl hge hle)
    unfold maxLen at hle
    have hpos : decide ((n : Int) > 0) = true := by simp; omega
    clear hG hfit
    go_enter Try.func90, Try.ntmps90
    go_wp2_with (at_builtin; refine Lib.wpList_append_run _ rfl _ _ _ _ rfl _ _ rfl rfl _ _ (hrz _) ?_)
    all_goals (go_ret; exact HP.out)
end Go.Proofs.Ytkhbgdhgjbnhpaa
