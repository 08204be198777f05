/-
  The reference's Token: names and numbers.
-/
import Derived.Test.YtlhfkdeegabbhaaDoorR2
import Derived.Test.YtlhfkdeegabbhaaDoorM5
import Derived.Test.YtlhfkdeegabbhaaDoorW3
namespace Go.Proofs.YtlhfkdeegabbhaaDoor
open Go.RowKit Go.Lib

theorem Lx.word_or (c : UInt8) : Lx.wordB c = (Lx.letterB c || Lx.digitB c || (c.toNat == 95)) := by
  have h : ∀ n, Lx.clsN n = 16 ↔ n = 95 := by
    intro n
    unfold Lx.clsN
    constructor
    · intro h
      repeat' split at h
      all_goals first | omega | assumption
    · rintro rfl; rfl
  have h1 : (Lx.clsN c.toNat == 16) = (c.toNat == 95) := by
    rw [Bool.eq_iff_iff]; simp only [beq_iff_eq]; exact h _
  unfold Lx.wordB Lx.letterB Lx.digitB
  rw [h1]

set_option maxRecDepth 100000 in
theorem token_name (s : ByteArray) (k : Nat) (w : World) (hs : s.size ≤ 20000) (hk : k < s.size) (hl : Lx.letterB s[k] = true) :
    Calls Tryd.prog 20 #[.string s, .int .i64 k] w fun e w' => e = .returned (.agg #[.int .i64 1, .string (s.extract k (runEndF Lx.wordB s k)), .int .i64 0, .int .i64 k]) ∧ Below w.heap.size w w' := by
  have hle := runEndF_le Lx.wordB s k (by omega)
  have hge := runEndF_ge Lx.wordB s k
  obtain ⟨r, hr⟩ : ∃ r, r = runEndF Lx.wordB s k := ⟨_, rfl⟩
  rw [← hr] at hle hge ⊢
  have HR := Lib.hid hr
  have H0 := Lib.hid hl
  clear hr hl
  go_enter Tryd.func20, Tryd.ntmps20
  go_wp2_with fail
  refine (letter_any s[k] _).mono ?_
  rintro e w' ⟨rfl, rfl⟩
  rw [H0.out]
  go_wp2_with fail
  go_loop [5] (fun v => ∃ j : Nat, k ≤ j ∧ j ≤ s.size ∧ v = .int .i64 j ∧ r = runEndF Lx.wordB s j) (fun v => s.size - (RowKit.intOf v).toNat)
  case atStart => exact ⟨k, Nat.le_refl _, by omega, rfl, HR.out⟩
  case round =>
    obtain ⟨j, hj1, hj2, rfl, hj3⟩ := hrel
    by_cases hjl : j < s.size
    · have hdj : decide (j < s.size) = true := by simpa using hjl
      have hw := Lx.word_or s[j]
      by_cases hl : Lx.letterB s[j] = true
      · rw [hl] at hw
        have HJ := Lib.hid (hj3.trans (runEndF_yes Lx.wordB s j hjl (by rw [hw]; rfl)))
        have H1 := Lib.hid hl
        clear hl hw hj3
        go_wp2_with fail
        refine (letter_any s[j] _).mono ?_
        rintro e w' ⟨rfl, rfl⟩
        rw [H1.out]
        go_wp2_with fail
        go_round
        case rel => exact ⟨j + 1, by omega, by omega, by go_num, HJ.out⟩
        case measure => simp [RowKit.intOf]; omega
      · have hl' : Lx.letterB s[j] = false := by simpa using hl
        rw [hl'] at hw
        have H1 := Lib.hid hl'
        clear hl hl'
        by_cases hd : Lx.digitB s[j] = true
        · rw [hd] at hw
          have HJ := Lib.hid (hj3.trans (runEndF_yes Lx.wordB s j hjl (by rw [hw]; rfl)))
          have H2 := Lib.hid hd
          clear hd hw hj3
          go_wp2_with fail
          refine (letter_any s[j] _).mono ?_
          rintro e w' ⟨rfl, rfl⟩
          rw [H1.out]
          go_wp2_with fail
          refine (digit_any s[j] _).mono ?_
          rintro e w' ⟨rfl, rfl⟩
          rw [H2.out]
          go_wp2_with fail
          go_round
          case rel => exact ⟨j + 1, by omega, by omega, by go_num, HJ.out⟩
          case measure => simp [RowKit.intOf]; omega
        · have hd' : Lx.digitB s[j] = false := by simpa using hd
          rw [hd'] at hw
          have H2 := Lib.hid hd'
          clear hd hd'
          by_cases h95 : s[j].toNat = 95
          · have d95 : ((s[j].toNat : Int) == 95) = true := by simp; omega
            have HJ := Lib.hid (hj3.trans (runEndF_yes Lx.wordB s j hjl (by rw [hw, h95]; rfl)))
            clear h95 hw hj3
            go_wp2_with fail
            refine (letter_any s[j] _).mono ?_
            rintro e w' ⟨rfl, rfl⟩
            rw [H1.out]
            go_wp2_with fail
            refine (digit_any s[j] _).mono ?_
            rintro e w' ⟨rfl, rfl⟩
            rw [H2.out]
            go_wp2_with fail
            go_round
            case rel => exact ⟨j + 1, by omega, by omega, by go_num, HJ.out⟩
            case measure => simp [RowKit.intOf]; omega
          · have d95 : ((s[j].toNat : Int) == 95) = false := by simp; omega
            have hw2 : Lx.wordB s[j] = false := by rw [hw]; simpa using h95
            have hjr : r = j := hj3.trans (runEndF_no Lx.wordB s j hjl hw2)
            subst hjr
            clear h95 hw hj3 hw2
            go_wp2_with fail
            refine (letter_any s[r] _).mono ?_
            rintro e w' ⟨rfl, rfl⟩
            rw [H1.out]
            go_wp2_with fail
            refine (digit_any s[r] _).mono ?_
            rintro e w' ⟨rfl, rfl⟩
            rw [H2.out]
            go_wp2_with fail
            refine bodyPost_ret (v := .agg #[.int .i64 1, .string (s.extract k r), .int .i64 0, .int .i64 k]) (by simp [results, Tryd.results20, go_sem]) rfl ⟨rfl, ?_⟩
            exact (Below.refl _ _).alloc (Nat.le_refl _) _
    · have hdj : decide (j < s.size) = false := by simpa using hjl
      have hjr : r = j := hj3.trans (runEndF_end Lx.wordB s j (by omega))
      subst hjr
      clear hj3
      go_wp2_with fail
      refine bodyPost_ret (v := .agg #[.int .i64 1, .string (s.extract k r), .int .i64 0, .int .i64 k]) (by simp [results, Tryd.results20, go_sem]) rfl ⟨rfl, ?_⟩
      exact (Below.refl _ _).alloc (Nat.le_refl _) _
end Go.Proofs.YtlhfkdeegabbhaaDoor
