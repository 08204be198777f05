/-
 Walks of the small functions of the lexer: runEnd, commentEnd, gapEnd.
-/
import Derived.WalkKit
import Derived.BigQuiet
import Derived.Deep.QuietTactic
import Derived.Outline
import Derived.LoopTactic
import Derived.Lib.Hide
import Derived.Test.YtpdhiminpdmpiaaGreatDoorProg
import Derived.Test.YtpdhiminpdmpiaaGreatDoorVA
set_option linter.unusedVariables false
set_option linter.unusedSimpArgs false
set_option linter.unusedSectionVars false
set_option linter.unusedVariables false
set_option linter.unusedSimpArgs false
set_option linter.unusedSectionVars false
namespace Go.Proofs.YtpdhiminpdmpiaaGreatDoor
open Go.RowKit Go.Lib
def TabAt (w : World) (b : Nat) : Prop := ∀ i, i < 256 → w.cell? ⟨b, i, none⟩ = some (.int .u8 (Lx.clsN i))
def runEndF (p : UInt8 → Bool) (s : ByteArray) (k : Nat) : Nat := k + Lx.runLen p (s.data.toList.drop k)
theorem drop_cons (s : ByteArray) (k : Nat) (h : k < s.size) : s.data.toList.drop k = s[k] :: s.data.toList.drop (k + 1) := by
 rw [List.drop_eq_getElem_cons (by simpa using h)]; rfl
theorem runEndF_yes (p : UInt8 → Bool) (s : ByteArray) (k : Nat) (h : k < s.size) (hp : p s[k] = true) : runEndF p s k = runEndF p s (k + 1) := by
 unfold runEndF; rw [drop_cons s k h]; simp [Lx.runLen, hp]; omega
theorem runEndF_no (p : UInt8 → Bool) (s : ByteArray) (k : Nat) (h : k < s.size) (hp : p s[k] = false) : runEndF p s k = k := by
 unfold runEndF; rw [drop_cons s k h]; simp [Lx.runLen, hp]
theorem runEndF_end (p : UInt8 → Bool) (s : ByteArray) (k : Nat) (h : s.size ≤ k) : runEndF p s k = k := by
 unfold runEndF; rw [List.drop_of_length_le (by simpa using h)]; simp [Lx.runLen]
theorem ret_int {k : IntKind} {a b : Int} (h : a = b) : Ending.returned (.int k a) = .returned (.int k b) := by rw [h]
theorem clsN_cases (n : Nat) : Lx.clsN n = 0 ∨ Lx.clsN n = 1 ∨ Lx.clsN n = 2 ∨ Lx.clsN n = 4 ∨ Lx.clsN n = 8 ∨ Lx.clsN n = 16 := by
 unfold Lx.clsN; repeat' split
 all_goals simp
theorem bits_blank (c : UInt8) : Lx.blankB c = (bits BinOp.and IntKind.u8 (↑(Lx.clsN c.toNat)) 1 != 0) := by
 unfold Lx.blankB; rcases clsN_cases c.toNat with h | h | h | h | h | h <;> rw [h] <;> kernel_rfl
theorem bits_digit (c : UInt8) : Lx.digitB c = (bits BinOp.and IntKind.u8 (↑(Lx.clsN c.toNat)) 8 != 0) := by
 unfold Lx.digitB; rcases clsN_cases c.toNat with h | h | h | h | h | h <;> rw [h] <;> kernel_rfl
theorem bits_word (c : UInt8) : Lx.wordB c = (bits BinOp.and IntKind.u8 (↑(Lx.clsN c.toNat)) 28 != 0) := by
 unfold Lx.wordB; rcases clsN_cases c.toNat with h | h | h | h | h | h <;> rw [h] <;> kernel_rfl
theorem u8lt (c : UInt8) : (c.toNat : Int) < 256 := by have := UInt8.toNat_lt c; omega
theorem runEnd_any (p : UInt8 → Bool) (m : Int) (hp : ∀ c : UInt8, p c = (bits BinOp.and IntKind.u8 (↑(Lx.clsN c.toNat)) m != 0)) (s : ByteArray) (b k0 : Nat) (w : World) (hs : s.size ≤ maxLen) (hk0 : k0 ≤ s.size) (ht : TabAt w b) :
  Calls Tryz.prog 184 #[.pointer (some ⟨b, 0, none⟩), .string s, .int .i64 k0, .int .u8 m] w fun e w' =>
   e = .returned (.int .i64 (runEndF p s k0)) ∧ ∃ n, w' = w.drewN n := by
 unfold maxLen at hs
 have HT := Lib.hid ht
 clear ht
 have HP := Lib.hid hp
 clear hp
 go_enter Tryz.func184, Tryz.ntmps184
 go_wp2
 go_loopw [2] (fun v wr => ∃ k : Nat, k ≤ s.size ∧ v = .int .i64 k ∧ runEndF p s k0 = runEndF p s k ∧ ∃ n, wr = w.drewN n) (fun v _ => s.size - (intOf v).toNat)
 case atStart => exact ⟨k0, hk0, rfl, rfl, 0, rfl⟩
 case round =>
  obtain ⟨k, hk, rfl, hr, n, rfl⟩ := hrel
  have HR := Lib.hid hr
  clear hr
  by_cases hlt : k < s.size
  ·have hd : decide (k < s.size) = true := by simpa using hlt
   have hc := HT.out s[k].toNat (UInt8.toNat_lt _)
   have hb := u8lt s[k]
   go_wp2
   go_quiet (fail)
   clear hc hb
   go_wp2
   ·have hx : p s[k] = true := by rw [HP.out]; assumption
    go_roundw
    case rel => exact ⟨k + 1, by omega, by go_num, by rw [HR.out, runEndF_yes p s k hlt hx], _, rfl⟩
    case measure => simp [intOf]; omega
   ·have hx : p s[k] = false := by rw [HP.out]; assumption
    go_ret
    exact ⟨ret_int (by rw [HR.out, runEndF_no p s k hlt hx]), _, World.drewN_drewN ..⟩
  ·have hd : decide (k < s.size) = false := by simpa using hlt
   go_wp2
   go_quiet (fail)
   go_wp2
   go_ret
   exact ⟨ret_int (by rw [HR.out, runEndF_end p s k (by omega)]), _, World.drewN_drewN ..⟩
end Go.Proofs.YtpdhiminpdmpiaaGreatDoor
