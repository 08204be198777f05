/-
  The walk of LexerErrors.
-/
import Derived.Test.YtlhfkdeegabbhaaDoorW13
import Derived.Test.YtlhfkdeegabbhaaDoorM2
namespace Go.Proofs.YtlhfkdeegabbhaaDoor
open Go.RowKit Go.Lib

theorem lex_spec (s : ByteArray) (w : World) (hs : s.size ≤ 140737488355328) (hL : Libs w) (ts : List Lx.Tk) (er at' : Nat) (h : Lx.lexL s.data.toList = (ts, er, at')) :
    Calls Tryd.prog 10 #[.string s] w fun e w' => ∃ a cap, e = .returned (.tuple #[.slice a ts.length cap, .int .i64 er, .int .i64 at']) ∧ w'.ownsRow w.heap.size 30 4 (.slice a ts.length cap) ts.length (tksCells ts) ∧ Below w.heap.size w w' := by
  refine (lex_any s w hs hL).mono ?_
  rintro e w' ⟨v, rfl, h1, h2, hb⟩
  rw [h] at *
  obtain ⟨a, cap, rfl⟩ := row_shape h1
  exact ⟨a, cap, rfl, h1, hb⟩

def Good (w : World) (e : Ending) (w' : World) : Prop := e = .returned (.bool true) ∧ Below w.heap.size w w'

theorem errors_any (s : ByteArray) (w : World) (hs : s.size ≤ 140737488355328) (hL : Libs w) : Calls Tryd.prog 8 #[.string s] w (Good w) := by
  have HL := Lib.hid hL
  clear hL
  by_cases h3 : 30000 < s.size
  · have hd : decide (30000 < (s.size : Int)) = true := by simp; omega
    go_enter Tryd.func8, Tryd.ntmps8
    go_wp2_with fail
    refine (head_any w HL.out).mono ?_
    rintro e wa ⟨rfl, hba⟩
    go_wp2_with fail
    go_ret
    exact ⟨rfl, hba⟩
  · have hd : decide (30000 < (s.size : Int)) = false := by simp; omega
    obtain ⟨ts, er, at', hr⟩ : ∃ ts er at', Lx.lexL s.data.toList = (ts, er, at') := ⟨_, _, _, rfl⟩
    have hlen : s.data.toList.length = s.size := by simp
    by_cases h0 : er = 0
    · subst h0
      obtain ⟨g1, g2, _, _⟩ := Lx.lex_ok s.data.toList (by rw [hr])
      rw [hr] at g2
      simp only at g2
      subst g2
      rw [hlen] at g1
      have HR := Lib.hid hr
      clear hr hlen
      have hd2 : decide ((s.size : Int) ≤ 20000) = true := by simp; omega
      go_enter Tryd.func8, Tryd.ntmps8
      go_wp2_with fail
      refine (head_any w HL.out).mono ?_
      rintro e wa ⟨rfl, hba⟩
      go_wp2_with fail
      refine (lex_spec s wa hs (HL.out.below hba (Nat.le_refl _)) _ _ _ HR.out).mono ?_
      rintro e wb ⟨a, cap, rfl, hrow, hbb⟩
      have hb := hba.trans (hbb.mono hba.size)
      go_wp2_with fail
      go_ret
      exact ⟨rfl, hb⟩
    · have he0 : ((er : Int) == 0) = false := by simp; omega
      by_cases h2 : 20000 < s.size
      · have e2 := Lx.lex_long s.data.toList (by omega)
        rw [hr] at e2
        obtain ⟨rfl, rfl, rfl⟩ : ts = [] ∧ er = 2 ∧ at' = 20000 := by simpa using e2
        have HR := Lib.hid hr
        clear hr hlen e2
        have hd2 : decide (20000 < (s.size : Int)) = true := by simp; omega
        go_enter Tryd.func8, Tryd.ntmps8
        go_wp2_with fail
        refine (head_any w HL.out).mono ?_
        rintro e wa ⟨rfl, hba⟩
        go_wp2_with fail
        refine (lex_spec s wa hs (HL.out.below hba (Nat.le_refl _)) _ _ _ HR.out).mono ?_
        rintro e wb ⟨a, cap, rfl, hrow, hbb⟩
        have hb := hba.trans (hbb.mono hba.size)
        go_wp2_with fail
        go_ret
        exact ⟨rfl, hb⟩
      · have g := Lx.lex_error s.data.toList (by omega) (by rw [hr]; exact h0)
        rw [hr] at g
        obtain ⟨g1, g2, g3, g4⟩ := g
        simp only at g1 g2 g3 g4
        subst g1
        rw [hlen] at g2
        obtain ⟨ts2, er2, at2, hr2⟩ : ∃ ts er a, Lx.lexL (s.data.toList.take at') = (ts, er, a) := ⟨_, _, _, rfl⟩
        rw [hr2] at g4
        simp only at g4
        subst g4
        have hd2 : decide (20000 < (s.size : Int)) = false := by simp; omega
        have hd3 : decide ((at' : Int) < 0) = false := by simp
        have hd4 : decide ((s.size : Int) ≤ at') = false := by simp; omega
        have hd5 : (((er : Int) != 3) = true → ((er : Int) != 2) = false) := by intro h; simp at h ⊢; omega
        have e1 : (s.extract 0 at').data.toList = s.data.toList.take at' := by simp [ByteArray.data_extract]
        have HR := Lib.hid hr
        have HR2 : Hid (Lx.lexL (s.extract 0 at').data.toList = (ts2, 0, at2)) := by apply Lib.hid; rw [e1]; exact hr2
        clear hr hr2 hlen e1 h0
        have hsx : (s.extract 0 at').size ≤ 140737488355328 := by rw [ByteArray.size_extract]; omega
        rcases g3 with rfl | rfl
        · go_enter Tryd.func8, Tryd.ntmps8
          go_wp2_with fail
          refine (head_any w HL.out).mono ?_
          rintro e wa ⟨rfl, hba⟩
          go_wp2_with fail
          refine (lex_spec s wa hs (HL.out.below hba (Nat.le_refl _)) _ _ _ HR.out).mono ?_
          rintro e wb ⟨a, cap, rfl, hrow, hbb⟩
          have hb := hba.trans (hbb.mono hba.size)
          go_wp2_with fail
          refine (lex_spec _ wb hsx (HL.out.below hb (Nat.le_refl _)) _ _ _ HR2.out).mono ?_
          rintro e wc ⟨a2, cap2, rfl, hrow2, hbc⟩
          have hb2 := hb.trans (hbc.mono hb.size)
          go_wp2_with fail
          go_ret
          exact ⟨rfl, hb2⟩
        · go_enter Tryd.func8, Tryd.ntmps8
          go_wp2_with fail
          refine (head_any w HL.out).mono ?_
          rintro e wa ⟨rfl, hba⟩
          go_wp2_with fail
          refine (lex_spec s wa hs (HL.out.below hba (Nat.le_refl _)) _ _ _ HR.out).mono ?_
          rintro e wb ⟨a, cap, rfl, hrow, hbb⟩
          have hb := hba.trans (hbb.mono hba.size)
          go_wp2_with fail
          refine (lex_spec _ wb hsx (HL.out.below hb (Nat.le_refl _)) _ _ _ HR2.out).mono ?_
          rintro e wc ⟨a2, cap2, rfl, hrow2, hbc⟩
          have hb2 := hb.trans (hbc.mono hb.size)
          go_wp2_with fail
          go_ret
          exact ⟨rfl, hb2⟩
end Go.Proofs.YtlhfkdeegabbhaaDoor
