/-
  The walk of variablesOf itself.
-/
import Derived.Test.YtkhbgdhgjbnhpaaU24
import Derived.Laws.EntriesVeiled
set_option linter.unusedVariables false
set_option linter.unusedSimpArgs false
set_option linter.unusedSectionVars false
namespace Go.Proofs.Ytkhbgdhgjbnhpaa
open Go.RowKit Go.Lib
open Un (kd nm ar size sizes over above aboves Bd)

def VarsP (k : Nat) (f : Int → Option Int) (w : World) (e : Ending) (w' : World) : Prop := ∃ m, e = .returned (.map (some m)) ∧ w.heap.size ≤ m ∧ MapII w' m k f ∧ Bd f ∧ Fr [] w w'
theorem run_makeColl (w : World) (a b : Value) : (Instr.makeFunc (.func 95) #[] #[a, b]).run Try.prog w = .ok (.func (.func 95) #[] #[a, b]) w := rfl
set_option maxRecDepth 100000 in
set_option maxHeartbeats 1600000 in
theorem variablesof_any (N : Nat → Prop) (t : Ty) (L : Nat) (hL : L ≤ 1000000) (hs : size t ≤ 90000) (hov : Un.vin L t = true) (cs : List Value) (w : World) (h : TyV w N t cs) :
    Calls Try.prog 83 #[.agg cs.toArray] w (VarsP (size t) (above t (fun _ => none) 0) w) := by
  have HT := Lib.hid (TyV.weak (N' := fun k => k < w.heap.size) h (fun k hk _ => hk))
  obtain ⟨p, c, rfl, _⟩ := h.shape
  have hE : ∀ (args : Array Value) (w : World), (callFunc 95 args).run Try.prog w = .ok (.enter 95 args) w := enters_coll
  have hmm := @run_makeMap Try.prog
  have hmf := run_makeColl
  obtain ⟨w4, hw4⟩ : ∃ w4, w4 = (((w.alloc (.cells #[.int .i64 (kd t), .int .i64 (nm t), .slice p (ar t).length c] 24)).alloc (.map #[] 0)).alloc (.cells #[.map (some (w.heap.size + 1))] 99)).alloc (.cells #[collF (w.heap.size + 1 + 1) (w.heap.size + 1 + 1 + 1)] 118) := ⟨_, rfl⟩
  have HF4 : Hid (Fr [] w w4) := Lib.hid (by rw [hw4]; exact ((((Fr.refl _ _).alloc _).alloc _).alloc _).alloc _)
  have HA4 : Hid (Blk w4 (w.heap.size + 1 + 1) 99 #[.map (some (w.heap.size + 1))]) := Lib.hid (by rw [hw4]; exact (Blk.new_at (by simp)).alloc _)
  have HP4 : Hid (Blk w4 (w.heap.size + 1 + 1 + 1) 118 #[collF (w.heap.size + 1 + 1) (w.heap.size + 1 + 1 + 1)]) := Lib.hid (by rw [hw4]; exact Blk.new_at (by simp))
  have HM4 : Hid (MapII w4 (w.heap.size + 1) 0 (fun _ => none)) := Lib.hid (by
    have h1 := MapII.made (w.alloc (.cells #[.int .i64 (kd t), .int .i64 (nm t), .slice p (ar t).length c] 24))
    rw [show (w.alloc (.cells #[.int .i64 (kd t), .int .i64 (nm t), .slice p (ar t).length c] 24)).heap.size = w.heap.size + 1 from by simp] at h1
    rw [hw4]
    exact h1.keep (X := []) (((Fr.refl _ _).alloc _).alloc _) (by simp))
  unfold collF at hw4
  clear h
  go_enter Try.func83, Try.ntmps83
  go_wp2_with fail
  rw [← hw4]
  clear hw4
  have hbd : Bd (fun _ => none) := fun j v h => by cases h
  refine (collect_any (fun k => k < w.heap.size) (w.heap.size + 1 + 1) (w.heap.size + 1 + 1 + 1) (w.heap.size + 1) L hL (by omega) (by omega) (by omega) (size t) t (Nat.le_refl _) hov _ w4 0 0 (fun _ => none) (HT.out.keep0 HF4.out) HA4.out HP4.out HM4.out hbd (by omega) (by omega) (by omega)).mono ?_
  rintro e w5 ⟨rfl, hM5, hB5, hf5⟩
  have HM5 := Lib.hid hM5
  have HB5 := Lib.hid hB5
  have HF5 := Lib.hid hf5
  clear hM5 hB5 hf5
  have HA5 := Lib.hid (HA4.out.keep HF5.out (by simp))
  have s1 : w5.cell? ⟨w.heap.size + 1 + 1, 0, none⟩ = some (.map (some (w.heap.size + 1))) := HA5.out.cell 0
  have sl : w.heap.size + 1 + 1 < w5.heap.size := HA5.out.lt
  go_wp2_with fail
  go_ret
  refine ⟨_, rfl, by omega, ?_, HB5.out, (HF4.out.nil [w.heap.size + 1]).trans HF5.out |>.drop (by omega)⟩
  have := HM5.out
  rwa [Nat.zero_add] at this
end Go.Proofs.Ytkhbgdhgjbnhpaa
