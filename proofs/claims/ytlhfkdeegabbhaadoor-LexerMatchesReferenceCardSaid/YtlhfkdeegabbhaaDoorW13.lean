/-
  Lex at every text, and the walk of head.
-/
import Derived.Test.YtlhfkdeegabbhaaDoorW12
namespace Go.Proofs.YtlhfkdeegabbhaaDoor
open Go.RowKit Go.Lib

theorem lex_any (s : ByteArray) (w : World) (hs : s.size ≤ 140737488355328) (hL : Libs w) :
    Calls Tryd.prog 10 #[.string s] w (LexPost w (Lx.lexL s.data.toList)) := by
  by_cases h : s.size ≤ 20000
  · exact lex_short s w h hL
  · refine (lex_long s w (by omega) hs).mono ?_
    rintro e w' ⟨rfl, hb⟩
    have hlex : Lx.lexL s.data.toList = ([], 2, 20000) := by unfold Lx.lexL; rw [if_pos (by simp; omega)]
    rw [hlex]
    exact ⟨_, rfl, World.ownsRow_nil _ _ _ _, fun _ => rfl, hb⟩

theorem row_cell {W : World} {base k : Nat} {v : Value} {xs : List Value} (h : W.ownsRow base 30 4 v k xs) (hk : k ≠ 0) :
    ∃ g cap, v = .slice (some ⟨g, 0, none⟩) k cap ∧ base ≤ g ∧ g < W.heap.size ∧ k ≤ cap ∧ ∀ j, j < k * 4 → W.cell? ⟨g, j, none⟩ = xs[j]? := by
  rcases h.2 with ⟨_, h0⟩ | ⟨g, cap, cur, rfl, hb, hg, hn, _, hc, ht⟩
  · exact absurd h0 hk
  · refine ⟨g, cap, rfl, hb, (Array.getElem?_eq_some_iff.1 hg).1, hn, fun j hj => ?_⟩
    have e : W.cell? ⟨g, j, none⟩ = cur[j]? := by simp [World.cell?, hg]
    rw [e, ← ht, List.getElem?_take, if_pos hj]; simp

abbrev t1 : ByteArray := ⟨#[108, 101, 116, 32, 114, 32, 61, 32, 38, 33, 120, 59, 32, 35, 32, 108, 111, 97, 110]⟩
abbrev t2 : ByteArray := ⟨#[120, 45, 62, 121, 32, 97, 58, 58, 98, 60, 45, 49]⟩
abbrev t3 : ByteArray := ⟨#[97, 32, 33, 32, 98]⟩
abbrev t4 : ByteArray := ⟨#[32, 49, 48, 48, 48, 48, 48, 48, 48, 48, 49]⟩
def l1 : List Lx.Tk := [⟨1, [108, 101, 116], 0, 0⟩, ⟨1, [114], 0, 4⟩, ⟨3, [61], 0, 6⟩, ⟨3, [38, 33], 0, 8⟩, ⟨1, [120], 0, 10⟩, ⟨3, [59], 0, 11⟩]
def l2 : List Lx.Tk := [⟨1, [120], 0, 0⟩, ⟨3, [45, 62], 0, 1⟩, ⟨1, [121], 0, 3⟩, ⟨1, [97], 0, 5⟩, ⟨3, [58, 58], 0, 6⟩, ⟨1, [98], 0, 8⟩, ⟨3, [60], 0, 9⟩, ⟨3, [45], 0, 10⟩, ⟨2, [49], 1, 11⟩]
theorem lexc1 : Lx.lexL t1.data.toList = (l1, 0, 0) := by decide +kernel
theorem lexc2 : Lx.lexL t2.data.toList = (l2, 0, 0) := by decide +kernel
theorem lexc3 : Lx.lexL t3.data.toList = ([], 3, 2) := by decide +kernel
theorem lexc4 : Lx.lexL t4.data.toList = ([], 2, 1) := by decide +kernel

theorem lex1 (w : World) (hL : Libs w) : Calls Tryd.prog 10 #[.string t1] w fun e w' => ∃ g cap, e = .returned (.tuple #[.slice (some ⟨g, 0, none⟩) 6 cap, .int .i64 0, .int .i64 0]) ∧ g < w'.heap.size ∧ 6 ≤ cap ∧
    (∀ j, j < 24 → w'.cell? ⟨g, j, none⟩ = (tksCells l1)[j]?) ∧ Below w.heap.size w w' := by
  refine (lex_any t1 w (by decide) hL).mono ?_
  rintro e w' ⟨v, rfl, h1, h2, hb⟩
  rw [lexc1] at *
  obtain ⟨g, cap, rfl, _, hg, hc, hx⟩ := row_cell h1 (by decide)
  exact ⟨g, cap, rfl, hg, hc, hx, hb⟩
theorem lex2 (w : World) (hL : Libs w) : Calls Tryd.prog 10 #[.string t2] w fun e w' => ∃ g cap, e = .returned (.tuple #[.slice (some ⟨g, 0, none⟩) 9 cap, .int .i64 0, .int .i64 0]) ∧ g < w'.heap.size ∧ 9 ≤ cap ∧
    (∀ j, j < 36 → w'.cell? ⟨g, j, none⟩ = (tksCells l2)[j]?) ∧ Below w.heap.size w w' := by
  refine (lex_any t2 w (by decide) hL).mono ?_
  rintro e w' ⟨v, rfl, h1, h2, hb⟩
  rw [lexc2] at *
  obtain ⟨g, cap, rfl, _, hg, hc, hx⟩ := row_cell h1 (by decide)
  exact ⟨g, cap, rfl, hg, hc, hx, hb⟩
theorem lex3 (w : World) (hL : Libs w) : Calls Tryd.prog 10 #[.string t3] w fun e w' => e = .returned (.tuple #[.slice none 0 0, .int .i64 3, .int .i64 2]) ∧ Below w.heap.size w w' := by
  refine (lex_any t3 w (by decide) hL).mono ?_
  rintro e w' ⟨v, rfl, h1, h2, hb⟩
  rw [lexc3] at *
  obtain rfl := h2 rfl
  exact ⟨rfl, hb⟩
theorem lex4 (w : World) (hL : Libs w) : Calls Tryd.prog 10 #[.string t4] w fun e w' => e = .returned (.tuple #[.slice none 0 0, .int .i64 2, .int .i64 1]) ∧ Below w.heap.size w w' := by
  refine (lex_any t4 w (by decide) hL).mono ?_
  rintro e w' ⟨v, rfl, h1, h2, hb⟩
  rw [lexc4] at *
  obtain rfl := h2 rfl
  exact ⟨rfl, hb⟩

set_option maxRecDepth 100000 in
set_option maxHeartbeats 1000000 in
theorem head_any (w : World) (hL : Libs w) : Calls Tryd.prog 9 #[] w fun e w' => e = .returned (.bool true) ∧ Below w.heap.size w w' := by
  have HL := Lib.hid hL
  clear hL
  go_enter Tryd.func9, Tryd.ntmps9
  go_wp2_with fail
  refine (lex1 w HL.out).mono ?_
  rintro e wa ⟨ga, ca, rfl, hga, hca, hxa, hba⟩
  go_wp2_with fail
  refine (lex2 wa (HL.out.below hba (Nat.le_refl _))).mono ?_
  rintro e wb ⟨gb, cb, rfl, hgb, hcb, hxb, hbb⟩
  have hb1 := hba.trans (hbb.mono hba.size)
  have hx1 : ∀ j, j < 24 → wb.cell? ⟨ga, j, none⟩ = (tksCells l1)[j]? := fun j hj => (hbb.cell (p := ⟨ga, j, none⟩) hga).trans (hxa j hj)
  have hg1 : ga < wb.heap.size := Nat.lt_of_lt_of_le hga hbb.size
  clear hba hbb hxa hga
  go_wp2_with fail
  refine (lex3 wb (HL.out.below hb1 (Nat.le_refl _))).mono ?_
  rintro e wc ⟨rfl, hbc⟩
  go_wp2_with fail
  have hb2 := hb1.trans (hbc.mono hb1.size)
  refine (lex4 wc (HL.out.below hb2 (Nat.le_refl _))).mono ?_
  rintro e wd ⟨rfl, hbd⟩
  have hb3 := hb2.trans (hbd.mono hb2.size)
  have hcd : Below wb.heap.size wb wd := hbc.trans (hbd.mono hbc.size)
  have hy1 : ∀ j, j < 24 → wd.cell? ⟨ga, j, none⟩ = (tksCells l1)[j]? := fun j hj => (hcd.cell (p := ⟨ga, j, none⟩) hg1).trans (hx1 j hj)
  have hy2 : ∀ j, j < 36 → wd.cell? ⟨gb, j, none⟩ = (tksCells l2)[j]? := fun j hj => (hcd.cell (p := ⟨gb, j, none⟩) hgb).trans (hxb j hj)
  clear hx1 hxb hcd hbc hbd hb1 hb2 hg1 hgb
  have c12 : wd.cell? ⟨ga, 12, none⟩ = some (.int .i64 3) := hy1 12 (by decide)
  have c13 : wd.cell? ⟨ga, 13, none⟩ = some (.string ⟨#[38, 33]⟩) := hy1 13 (by decide)
  have c14 : wd.cell? ⟨ga, 14, none⟩ = some (.int .i64 0) := hy1 14 (by decide)
  have c15 : wd.cell? ⟨ga, 15, none⟩ = some (.int .i64 8) := hy1 15 (by decide)
  have c23 : wd.cell? ⟨ga, 23, none⟩ = some (.int .i64 11) := hy1 23 (by decide)
  have d5 : wd.cell? ⟨gb, 5, none⟩ = some (.string ⟨#[45, 62]⟩) := hy2 5 (by decide)
  have d17 : wd.cell? ⟨gb, 17, none⟩ = some (.string ⟨#[58, 58]⟩) := hy2 17 (by decide)
  have d29 : wd.cell? ⟨gb, 29, none⟩ = some (.string ⟨#[45]⟩) := hy2 29 (by decide)
  have d34 : wd.cell? ⟨gb, 34, none⟩ = some (.int .i64 1) := hy2 34 (by decide)
  clear hy1 hy2
  go_wp2_with fail
  go_ret
  exact ⟨rfl, hb3⟩
end Go.Proofs.YtlhfkdeegabbhaaDoor
