/-
  The deferred closure of Unify.
-/
import Derived.Test.YtkhbgdhgjbnhpaaU38
set_option linter.unusedVariables false
set_option linter.unusedSimpArgs false
set_option linter.unusedSectionVars false
namespace Go.Proofs.Ytkhbgdhgjbnhpaa
open Go.RowKit Go.Lib

set_option maxRecDepth 100000 in
set_option maxHeartbeats 1600000 in
theorem unify1_idle (p q : Nat) (w : World) :
    CallsD Try.prog 37 #[.pointer (some ⟨p, 0, none⟩), .pointer (some ⟨q, 0, none⟩)] .returning w fun e u' w' => e = .returned (.tuple #[]) ∧ u' = .returning ∧ w' = w := by
  refine callsD_of_wpS Try.func37 rfl fun c₀ cs hu => ?_
  apply wpS_seq
  apply wpS_region
  simp [wpOpsS, go_sem, recoverD, hu, Try.ntmps37, Exit.thenS]
  refine wpS_of_wp ?_
  simp only [Array.replicate]
  go_wp2_with fail
  cases c₀
  simp_all [bodyPostS, results, Try.results37]
theorem run_failure (c : Int) (w : World) : (Instr.typeAssert (.iface 64 (.int .i64 c)) 20 64 true).run Try.prog w = .ok (.tuple #[.int .i64 c, .bool true]) w := by kernel_rfl
set_option maxRecDepth 100000 in
set_option maxHeartbeats 1600000 in
theorem unify1_fail (p q : Nat) (c : Int) (older : List PanicEntry) (w : World) (x y : Value) (hp : w.cell? ⟨p, 0, none⟩ = some x) (hpf : w.frozen? ⟨p, 0, none⟩ = false) (hq : w.cell? ⟨q, 0, none⟩ = some y) (hqf : w.frozen? ⟨q, 0, none⟩ = false) (hne : p ≠ q) :
    CallsD Try.prog 37 #[.pointer (some ⟨p, 0, none⟩), .pointer (some ⟨q, 0, none⟩)] (.panicking ({ v := .iface 64 (.int .i64 c), recovered := false } :: older)) w fun e u' w' =>
      e = .returned (.tuple #[]) ∧ u' = .panicking ({ v := .iface 64 (.int .i64 c), recovered := true } :: older) ∧ w' = (w.setCell ⟨p, 0, none⟩ (.slice none 0 0)).setCell ⟨q, 0, none⟩ (.int .i64 c) := by
  have hta : ∀ (w : World), (Instr.typeAssert (.iface 64 (.int .i64 c)) 20 64 true).run Try.prog w = .ok (.tuple #[.int .i64 c, .bool true]) w := fun w => run_failure c w
  refine callsD_of_wpS Try.func37 rfl fun c₀ cs hu => ?_
  apply wpS_seq
  apply wpS_region
  simp [wpOpsS, go_sem, recoverD, hu, Try.ntmps37, Exit.thenS]
  refine wpS_of_wp ?_
  simp only [Array.replicate]
  go_wp2_with fail
  cases c₀
  simp_all [bodyPostS, results, Try.results37]
end Go.Proofs.Ytkhbgdhgjbnhpaa
