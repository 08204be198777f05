/-
  The walk of the parser's head.
-/
import Derived.Test.YtefihbhcdocgfaaGreatDoorZGM5
set_option linter.unusedVariables false
set_option linter.unusedSimpArgs false
set_option linter.unusedSectionVars false

namespace Go.Proofs.YtefihbhcdocgfaaGreatDoor
open Go.RowKit Go.Lib
open Lx (Tk)
open Px (Txt TyE VarD DataD TraitD BoundD ImplD ArgD ExprD StmtD ArmD FuncD ModD)

theorem parse_spec (s : ByteArray) (w : World) (hs : s.size ≤ 140737488355328) (hL : Libs w) (r : Option ModD × Nat × Nat) (h : Px.parseP s.data.toList = r) :
    Calls Tryz.prog 10 #[.string s] w (ParsePost w r) := by
  subst h; exact parse_any s w hs hL
theorem RowV.get {w : World} {N : Nat → Prop} {E s n : Nat} {q : Q} {v : Value} (h : RowV w N E s n q v) (hn : n ≠ 0) :
    ∃ g cap xs, v = .slice (some ⟨g, 0, none⟩) n cap ∧ N g ∧ g < w.heap.size ∧ n ≤ cap ∧ cap ≤ maxLen ∧ xs.length = n * s ∧ (∀ j, j < n * s → w.cell? ⟨g, j, none⟩ = xs[j]?) ∧ Rep w N q xs := by
  rcases h with ⟨_, rfl, _⟩ | ⟨g, cap, cur, xs, rfl, b, hg, c0, c1, c2, c3, c4, c5, hq⟩
  · exact absurd rfl hn
  · refine ⟨g, cap, xs, rfl, hg, (Array.getElem?_eq_some_iff.1 c0).1, c1, c2, c5, fun j hj => ?_, hq⟩
    have e : w.cell? ⟨g, j, none⟩ = cur[j]? := by simp [World.cell?, c0]
    rw [e, ← c4, List.getElem?_take, if_pos hj]; simp
theorem RowV.none {w : World} {N : Nat → Prop} {E s : Nat} {q : Q} {v : Value} (h : RowV w N E s 0 q v) : v = .slice none 0 0 := by
  rcases h with ⟨h, _⟩ | ⟨g, cap, cur, xs, rfl, b, _⟩
  · exact h
  · exact absurd rfl b
abbrev pt1 : ByteArray := ⟨#[109, 111, 100, 117, 108, 101, 32, 109, 59]⟩
abbrev pt2 : ByteArray := ⟨#[109, 111, 100, 117, 108, 101, 32, 109, 59, 32, 102, 110, 32, 102, 40, 41, 32, 45, 62, 32, 73, 110, 116, 32, 123, 32, 108, 101, 116, 32, 120, 32, 61, 32, 53, 59, 32, 114, 101, 116, 117, 114, 110, 32, 120, 59, 32, 125]⟩
abbrev pt3 : ByteArray := ⟨#[109, 111, 100, 117, 108, 101, 32, 109, 59, 32, 102, 110, 32, 102, 40, 41, 32, 45, 62, 32, 73, 110, 116, 32, 123, 32, 108, 101, 116, 32, 120, 32, 61, 32, 59, 32, 125]⟩
abbrev pt4 : ByteArray := ⟨#[109, 111, 100, 117, 108, 101, 32, 109, 59, 32, 100, 97, 116, 97]⟩
abbrev pt5 : ByteArray := ⟨#[109, 111, 100, 117, 108, 101, 32, 105, 102, 59]⟩
abbrev pt6 : ByteArray := ⟨#[109, 111, 100, 117, 108, 101, 32, 109, 59, 32, 36]⟩
abbrev pt7 : ByteArray := ⟨#[109, 111, 100, 117, 108, 101, 32, 109, 59, 32, 100, 97, 116, 97, 32, 108, 105, 115, 116, 60, 84, 62, 32, 123, 32, 110, 105, 108, 44, 32, 99, 111, 110, 115, 40, 84, 44, 32, 66, 111, 120, 60, 108, 105, 115, 116, 60, 84, 62, 62, 41, 32, 125, 32, 100, 114, 111, 112, 32, 51, 59]⟩
theorem ptr1 : Px.parseP pt1.data.toList = (some ⟨[109], [], [], [], [], []⟩, 0, 0) := by kernel_rfl
theorem ptr2 : Px.parseP pt2.data.toList = (some ⟨[109], [], [], [], [], [.mk [102] [] [] [] [] (.mk [73, 110, 116] [] 20) [.mk 1 [120] [] [] ⟨1, [], [], [], [], 5, [], 34⟩ [] [] [] [] 26, .mk 7 [120] [] [] Px.expr0 [] [] [] [] 37] 10]⟩, 0, 0) := by kernel_rfl
theorem ptr3 : Px.parseP pt3.data.toList = (none, 4, 34) := by kernel_rfl
theorem ptr4 : Px.parseP pt4.data.toList = (none, 5, 14) := by kernel_rfl
theorem ptr5 : Px.parseP pt5.data.toList = (none, 4, 7) := by kernel_rfl
theorem ptr6 : Px.parseP pt6.data.toList = (none, 3, 10) := by kernel_rfl
theorem ptr7 : Px.parseP pt7.data.toList = (some ⟨[109], [], [⟨[108, 105, 115, 116], [[84]], [⟨[110, 105, 108], [], 25⟩, ⟨[99, 111, 110, 115], [.mk [84] [] 35, .mk [66, 111, 120] [.mk [108, 105, 115, 116] [.mk [84] [] 47] 42] 38], 30⟩], 3, 10⟩], [], [], []⟩, 0, 0) := by kernel_rfl
end Go.Proofs.YtefihbhcdocgfaaGreatDoor
