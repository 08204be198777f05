/-
  Walks of the small reference functions: Letter, Digit, Blank, Gap, Symbols.
-/
import Derived.Test.YtlhfkdeegabbhaaDoorW2
import Derived.Test.YtlhfkdeegabbhaaDoorM3
namespace Go.Proofs.YtlhfkdeegabbhaaDoor
open Go.RowKit Go.Lib

theorem clsN_letter (n : Nat) : Lx.clsN n = 4 ↔ (97 ≤ n ∧ n ≤ 122) ∨ (65 ≤ n ∧ n ≤ 90) := by
  unfold Lx.clsN
  split
  · constructor <;> intro _ <;> omega
  · split
    · constructor <;> intro _ <;> omega
    · split
      · constructor <;> intro _ <;> omega
      · split
        · constructor <;> intro _ <;> omega
        · split
          · constructor <;> intro _ <;> omega
          · constructor <;> intro _ <;> omega
theorem clsN_digit' (n : Nat) : Lx.clsN n = 8 ↔ 48 ≤ n ∧ n ≤ 57 := by
  unfold Lx.clsN
  split
  · constructor <;> intro _ <;> omega
  · split
    · constructor <;> intro _ <;> omega
    · split
      · constructor <;> intro _ <;> omega
      · split
        · constructor <;> intro _ <;> omega
        · split
          · constructor <;> intro _ <;> omega
          · constructor <;> intro _ <;> omega
theorem clsN_blank (n : Nat) : Lx.clsN n = 1 ↔ n = 32 ∨ n = 9 ∨ n = 13 ∨ n = 10 := by
  unfold Lx.clsN
  split
  · constructor <;> intro _ <;> omega
  · split
    · constructor <;> intro _ <;> omega
    · split
      · constructor <;> intro _ <;> omega
      · split
        · constructor <;> intro _ <;> omega
        · split
          · constructor <;> intro _ <;> omega
          · constructor <;> intro _ <;> omega
theorem ret_bool {a b : Bool} (h : a = b) : Ending.returned (.bool a) = .returned (.bool b) := by rw [h]

theorem letter_any (c : UInt8) (w : World) : Calls Tryd.prog 14 #[.int .u8 c.toNat] w fun e w' => e = .returned (.bool (Lx.letterB c)) ∧ w' = w := by
  have hl : Lx.letterB c = decide ((97 ≤ c.toNat ∧ c.toNat ≤ 122) ∨ (65 ≤ c.toNat ∧ c.toNat ≤ 90)) := by
    rw [Bool.eq_iff_iff]; simp only [Lx.letterB, beq_iff_eq, decide_eq_true_eq]; exact clsN_letter _
  have HL := Lib.hid hl
  clear hl
  by_cases h1 : 97 ≤ c.toNat
  · have d1 : decide ((97 : Int) ≤ (c.toNat : Int)) = true := by simp; omega
    by_cases h2 : c.toNat ≤ 122
    · have d2 : decide ((c.toNat : Int) ≤ 122) = true := by simp; omega
      go_enter Tryd.func14, Tryd.ntmps14
      go_wp2
      go_ret
      exact ⟨ret_bool (by rw [HL.out]; simp; omega), rfl⟩
    · have d2 : decide ((c.toNat : Int) ≤ 122) = false := by simp; omega
      have d3 : decide ((65 : Int) ≤ (c.toNat : Int)) = true := by simp; omega
      have d4 : decide ((c.toNat : Int) ≤ 90) = false := by simp; omega
      go_enter Tryd.func14, Tryd.ntmps14
      go_wp2
      go_ret
      exact ⟨ret_bool (by rw [HL.out]; simp; omega), rfl⟩
  · have d1 : decide ((97 : Int) ≤ (c.toNat : Int)) = false := by simp; omega
    by_cases h3 : 65 ≤ c.toNat
    · have d3 : decide ((65 : Int) ≤ (c.toNat : Int)) = true := by simp; omega
      by_cases h4 : c.toNat ≤ 90
      · have d4 : decide ((c.toNat : Int) ≤ 90) = true := by simp; omega
        go_enter Tryd.func14, Tryd.ntmps14
        go_wp2
        go_ret
        exact ⟨ret_bool (by rw [HL.out]; simp; omega), rfl⟩
      · have d4 : decide ((c.toNat : Int) ≤ 90) = false := by simp; omega
        go_enter Tryd.func14, Tryd.ntmps14
        go_wp2
        go_ret
        exact ⟨ret_bool (by rw [HL.out]; simp; omega), rfl⟩
    · have d3 : decide ((65 : Int) ≤ (c.toNat : Int)) = false := by simp; omega
      go_enter Tryd.func14, Tryd.ntmps14
      go_wp2
      go_ret
      exact ⟨ret_bool (by rw [HL.out]; simp; omega), rfl⟩
theorem digit_any (c : UInt8) (w : World) : Calls Tryd.prog 15 #[.int .u8 c.toNat] w fun e w' => e = .returned (.bool (Lx.digitB c)) ∧ w' = w := by
  have hl : Lx.digitB c = decide (48 ≤ c.toNat ∧ c.toNat ≤ 57) := by
    rw [Bool.eq_iff_iff]; simp only [Lx.digitB, beq_iff_eq, decide_eq_true_eq]; exact clsN_digit' _
  have HL := Lib.hid hl
  clear hl
  by_cases h1 : 48 ≤ c.toNat
  · have d1 : decide ((48 : Int) ≤ (c.toNat : Int)) = true := by simp; omega
    by_cases h2 : c.toNat ≤ 57
    · have d2 : decide ((c.toNat : Int) ≤ 57) = true := by simp; omega
      go_enter Tryd.func15, Tryd.ntmps15
      go_wp2
      go_ret
      exact ⟨ret_bool (by rw [HL.out]; simp; omega), rfl⟩
    · have d2 : decide ((c.toNat : Int) ≤ 57) = false := by simp; omega
      go_enter Tryd.func15, Tryd.ntmps15
      go_wp2
      go_ret
      exact ⟨ret_bool (by rw [HL.out]; simp; omega), rfl⟩
  · have d1 : decide ((48 : Int) ≤ (c.toNat : Int)) = false := by simp; omega
    go_enter Tryd.func15, Tryd.ntmps15
    go_wp2
    go_ret
    exact ⟨ret_bool (by rw [HL.out]; simp; omega), rfl⟩
theorem blank_any (c : UInt8) (w : World) : Calls Tryd.prog 25 #[.int .u8 c.toNat] w fun e w' => e = .returned (.bool (Lx.blankB c)) ∧ w' = w := by
  have hl : Lx.blankB c = decide (c.toNat = 32 ∨ c.toNat = 9 ∨ c.toNat = 13 ∨ c.toNat = 10) := by
    rw [Bool.eq_iff_iff]; simp only [Lx.blankB, beq_iff_eq, decide_eq_true_eq]; exact clsN_blank _
  have HL := Lib.hid hl
  clear hl
  by_cases h1 : c.toNat = 32
  · have d1 : ((c.toNat : Int) == 32) = true := by simp; omega
    have H1 := Lib.hid h1
    clear h1
    go_enter Tryd.func25, Tryd.ntmps25
    go_wp2
    go_ret
    exact ⟨ret_bool (by rw [HL.out]; simp [H1.out]), rfl⟩
  · have d1 : ((c.toNat : Int) == 32) = false := by simp; omega
    by_cases h2 : c.toNat = 9
    · have d2 : ((c.toNat : Int) == 9) = true := by simp; omega
      have H1 := Lib.hid h2
      clear h2
      go_enter Tryd.func25, Tryd.ntmps25
      go_wp2
      go_ret
      exact ⟨ret_bool (by rw [HL.out]; simp [H1.out]), rfl⟩
    · have d2 : ((c.toNat : Int) == 9) = false := by simp; omega
      by_cases h3 : c.toNat = 13
      · have d3 : ((c.toNat : Int) == 13) = true := by simp; omega
        have H1 := Lib.hid h3
        clear h3
        go_enter Tryd.func25, Tryd.ntmps25
        go_wp2
        go_ret
        exact ⟨ret_bool (by rw [HL.out]; simp [H1.out]), rfl⟩
      · have d3 : ((c.toNat : Int) == 13) = false := by simp; omega
        by_cases h4 : c.toNat = 10
        · have d4 : ((c.toNat : Int) == 10) = true := by simp; omega
          have H1 := Lib.hid h4
          clear h4
          go_enter Tryd.func25, Tryd.ntmps25
          go_wp2
          go_ret
          exact ⟨ret_bool (by rw [HL.out]; simp [H1.out]), rfl⟩
        · have d4 : ((c.toNat : Int) == 10) = false := by simp; omega
          go_enter Tryd.func25, Tryd.ntmps25
          go_wp2
          go_ret
          exact ⟨ret_bool (by rw [HL.out]; simp; omega), rfl⟩
end Go.Proofs.YtlhfkdeegabbhaaDoor
