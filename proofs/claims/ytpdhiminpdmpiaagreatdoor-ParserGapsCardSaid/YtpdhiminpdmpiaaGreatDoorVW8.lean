/-
 Walks of tokens and of its iterator.
-/
import Derived.RangeFuncNested
import Derived.RangeFuncBound
import Derived.RangeFuncCalls
import Derived.RangeFuncLeaves
import Derived.RangeFuncBox
import Derived.Shelf.Abstract
import Derived.Shelf.RegionOpen
import Derived.WalkKit
import Derived.OwnWalkIn
import Derived.TacticsInMore
import Derived.LoopNIn
import Derived.LoopIn
import Derived.Test.YtpdhiminpdmpiaaGreatDoorVW5
set_option linter.unusedVariables false
set_option linter.unusedSimpArgs false
set_option linter.unusedSectionVars false
set_option linter.unusedVariables false
set_option linter.unusedSimpArgs false
set_option linter.unusedSectionVars false
namespace Go.Proofs.YtpdhiminpdmpiaaGreatDoor
open Go.RowKit Go.Shelf
attribute [local go_sem] Oper.semAt_some
theorem tokens_any (s : ByteArray) (b : Nat) (w : World) :
  Calls Tryz.prog 73 #[.pointer (some ⟨b, 0, none⟩), .string s] w fun e w' => e = .returned (.func (.func 130) #[] #[.pointer (some ⟨w.heap.size, 0, none⟩), .pointer (some ⟨w.heap.size + 1, 0, none⟩)]) ∧
   w' = (w.alloc (.cells #[.pointer (some ⟨b, 0, none⟩)] 127)).alloc (.cells #[.string s] 9) := by
 go_enter Tryz.func73, Tryz.ntmps73
 go_wp2
 go_ret
 exact ⟨rfl, rfl⟩
def encY (y : Lx.Yd) : Array Value := #[.agg #[.int .i64 y.tk.kind, .string ⟨y.tk.text.toArray⟩, .int .i64 y.tk.num, .int .i64 y.tk.off], .int .i64 y.err]
theorem grown_of_below {w w' : World} (h : Below w.heap.size w w') : w.grownBy w' none := ⟨h.os, h.tape, h.output, h.size, fun k hk _ => h.block k hk⟩
theorem posEnd_eq (s : ByteArray) (k : Nat) : Lx.posEnd s.data.toList k = gapEndF s k := rfl
/-- a block that holds one token -/
def isTok (o : Obj) : Prop := ∃ c : Array Value, o = .cells c 45 (0, 0) ∧ c.size = 4
/-- what a round keeps: some blocks, and those that hold one token -/
def KP (K : Nat → Prop) (A B : World) : Prop := A.heap.size ≤ B.heap.size ∧ ∀ (k : Nat) (o : Obj), A.heap[k]? = some o → (K k ∨ isTok o) → B.heap[k]? = some o
theorem KP.trans {K : Nat → Prop} {A B C : World} (h : KP K A B) (h' : KP K B C) : KP K A C :=
 ⟨Nat.le_trans h.1 h'.1, fun k o ho hk => h'.2 k o (h.2 k o ho hk) hk⟩
theorem KP.refl (K : Nat → Prop) (A : World) : KP K A A := ⟨Nat.le_refl _, fun _ _ h _ => h⟩
theorem KP.of_below {K : Nat → Prop} {A B : World} (h : Below A.heap.size A B) : KP K A B :=
 ⟨h.size, fun k o ho _ => (h.block k (Array.getElem?_eq_some_iff.1 ho).1).trans ho⟩
theorem KP.cell {K : Nat → Prop} {A B : World} (h : KP K A B) {k : Nat} (hk : K k) (hs : k < A.heap.size) (o : Nat) : B.cell? ⟨k, o, none⟩ = A.cell? ⟨k, o, none⟩ :=
 World.cell?_of_block (w := A) ((h.2 k _ (Array.getElem?_eq_getElem hs) (.inl hk)).trans (Array.getElem?_eq_getElem hs).symm)
theorem KP.tok {K : Nat → Prop} {A B : World} (c : Array Value) (hc : c.size = 4) (h : KP K (A.alloc (.cells c 45)) B) (i : Nat) : B.cell? ⟨A.heap.size, i, none⟩ = c[i]? := by
 have h1 := h.2 A.heap.size (.cells c 45) (World.alloc_heap_new A _) (.inr ⟨c, rfl, hc⟩)
 have : B.cell? ⟨A.heap.size, i, none⟩ = (A.alloc (.cells c 45)).cell? ⟨A.heap.size, i, none⟩ := World.cell?_of_block (w := A.alloc (.cells c 45)) (h1.trans (World.alloc_heap_new A _).symm)
 rw [this, World.cell?_alloc_new]
theorem tok_err (l : List UInt8) (h : (Lx.tokAt l).1 = 0) : (Lx.tokAt l).2.2 ≠ 0 := by
 unfold Lx.tokAt at *
 repeat' split at h
 all_goals first | (simp at h; done) | (simp_all; done) | skip
theorem runLen_pos (p : UInt8 → Bool) (c : UInt8) (r : List UInt8) (h : p c = true) : 0 < Lx.runLen p (c :: r) := by simp [Lx.runLen, h]
theorem tok_pos (l : List UInt8) (h : (Lx.tokAt l).1 ≠ 0) : 0 < (Lx.tokAt l).2.1 ∧ (Lx.tokAt l).2.1 ≤ l.length := by
 cases l with
 | nil => exact absurd rfl h
 | cons c r =>
  have w1 := runLen_le Lx.wordB (c :: r)
  have d1 := runLen_le Lx.digitB (c :: r)
  unfold Lx.tokAt at *
  by_cases hl : Lx.letterB c = true
  ·have := runLen_pos Lx.wordB c r (letter_word c hl)
   simp only [hl, if_true] at h ⊢
   split
   ·rename_i h1; rw [if_pos h1] at h; exact absurd rfl h
   ·exact ⟨this, w1⟩
  ·by_cases hd : Lx.digitB c = true
   ·have := runLen_pos Lx.digitB c r hd
    have hl' : Lx.letterB c = false := by simpa using hl
    simp only [hl', hd, if_true, Bool.false_eq_true, if_false] at h ⊢
    by_cases hx : 10 < Lx.runLen Lx.digitB (c :: r) ∨ 1000000000 < Lx.numVal 0 ((c :: r).take (Lx.runLen Lx.digitB (c :: r)))
    ·rw [if_pos hx] at h; exact absurd rfl h
    ·rw [if_neg hx]; exact ⟨this, d1⟩
   ·simp only [hl, hd] at h ⊢
    by_cases h0 : Lx.symLen (c :: r) = 0
    ·simp [h0] at h
    ·simp only [h0]
     refine ⟨by simp; omega, ?_⟩
     have : ∀ n l, Lx.symFrom n l ≤ n := by
      intro n; induction n with
      | zero => intro l; exact Nat.le_refl _
      | succ n ih => intro l; unfold Lx.symFrom; split; exact Nat.le_refl _; exact Nat.le_succ_of_le (ih l)
     have := this (min 2 (c :: r).length) (c :: r)
     simp [Lx.symLen] at *; omega
theorem ext_eq (s : ByteArray) (k n : Nat) : s.extract k (k + n) = ⟨((s.data.toList.drop k).take n).toArray⟩ := by
 apply ByteArray.ext
 simp [ByteArray.data_extract]
 rw [← Array.toArray_toList (xs := s.data.extract k (k + n))]
 simp
end Go.Proofs.YtpdhiminpdmpiaaGreatDoor
