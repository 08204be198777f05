/-
  The walk of the reference's Same; the walk of LexerMatchesReference.
-/
import Derived.Test.YtlhfkdeegabbhaaDoorT5
import Derived.Test.YtlhfkdeegabbhaaDoorW14
import Derived.Test.YtlhfkdeegabbhaaDoorL1
namespace Go.Proofs.YtlhfkdeegabbhaaDoor
open Go.RowKit Go.Lib

set_option maxRecDepth 100000 in
theorem same_any (ts : List Lx.Tk) (a a2 : Option Addr) (cap cap2 b1 b2 : Nat) (w : World) (hn : ts.length ≤ 6000) (h1 : w.ownsRow b1 30 4 (.slice a ts.length cap) ts.length (tksCells ts)) (h2 : w.ownsRow b2 30 4 (.slice a2 ts.length cap2) ts.length (tksCells ts)) :
    Calls Tryd.prog 12 #[.slice a ts.length cap, .slice a2 ts.length cap2] w fun e w' => e = .returned (.bool true) ∧ Below w.heap.size w w' := by
  have DN : ((ts.length : Int) != (ts.length : Int)) = false := by simp
  have H1 := Lib.hid h1
  have H2 := Lib.hid h2
  clear h1 h2
  go_enter Tryd.func12, Tryd.ntmps12
  go_wp2_with fail
  go_loopw [5] (fun vi wx => ∃ i : Nat, vi = .int .i64 i ∧ i ≤ ts.length ∧ ∃ n, wx = w.drewN n) (fun vi _ => ts.length - (RowKit.intOf vi).toNat)
  case atStart => exact ⟨0, rfl, by omega, 0, rfl⟩
  case round =>
    obtain ⟨i, rfl, hi, n, rfl⟩ := hrel
    by_cases hil : i < ts.length
    · have hd2 : decide (i < ts.length) = true := by simpa using hil
      obtain ⟨g, cap', hva, _, hgw, hcap, hcell⟩ := row_cell H1.out (by omega)
      obtain ⟨rfl, rfl⟩ : a = some ⟨g, 0, none⟩ ∧ cap = cap' := by simpa using hva
      obtain ⟨g2, cap2', hva2, _, hgw2, hcap2, hcell2⟩ := row_cell H2.out (by omega)
      obtain ⟨rfl, rfl⟩ : a2 = some ⟨g2, 0, none⟩ ∧ cap2 = cap2' := by simpa using hva2
      obtain ⟨t, ht⟩ : ∃ t, t = ts[i] := ⟨_, rfl⟩
      have hget : ts[i]? = some t := by rw [ht]; exact List.getElem?_eq_getElem hil
      have hall : ∀ j, j < 4 → w.cell? ⟨g, i * 4 + j, none⟩ = (tkCells t)[j]? := by
        intro j hj
        rw [hcell (i * 4 + j) (by omega), tks_get ts i t hget j hj]
      have hall2 : ∀ j, j < 4 → w.cell? ⟨g2, i * 4 + j, none⟩ = (tkCells t)[j]? := by
        intro j hj
        rw [hcell2 (i * 4 + j) (by omega), tks_get ts i t hget j hj]
      obtain ⟨x, hx⟩ : ∃ x : ByteArray, x = ⟨t.text.toArray⟩ := ⟨_, rfl⟩
      obtain ⟨tk, htk⟩ : ∃ tk : Int, tk = t.kind := ⟨_, rfl⟩
      obtain ⟨tn, htn⟩ : ∃ tn : Int, tn = t.num := ⟨_, rfl⟩
      obtain ⟨tf, hto⟩ : ∃ tf : Int, tf = t.off := ⟨_, rfl⟩
      have c0 : w.cell? ⟨g, i * 4, none⟩ = some (.int .i64 tk) := by rw [htk]; exact hall 0 (by omega)
      have c1 : w.cell? ⟨g, i * 4 + 1, none⟩ = some (.string x) := by rw [hx]; exact hall 1 (by omega)
      have c2 : w.cell? ⟨g, i * 4 + 2, none⟩ = some (.int .i64 tn) := by rw [htn]; exact hall 2 (by omega)
      have c3 : w.cell? ⟨g, i * 4 + 3, none⟩ = some (.int .i64 tf) := by rw [hto]; exact hall 3 (by omega)
      have e0 : w.cell? ⟨g2, i * 4, none⟩ = some (.int .i64 tk) := by rw [htk]; exact hall2 0 (by omega)
      have e1 : w.cell? ⟨g2, i * 4 + 1, none⟩ = some (.string x) := by rw [hx]; exact hall2 1 (by omega)
      have e2 : w.cell? ⟨g2, i * 4 + 2, none⟩ = some (.int .i64 tn) := by rw [htn]; exact hall2 2 (by omega)
      have e3 : w.cell? ⟨g2, i * 4 + 3, none⟩ = some (.int .i64 tf) := by rw [hto]; exact hall2 3 (by omega)
      clear hall hall2 htk htn hto hx hget ht hcell hcell2 hva hva2
      go_wp2_with fail
      go_quiet (fail)
      go_wp2_with fail
      go_roundw
      case rel => exact ⟨i + 1, by go_num, by omega, _, rfl⟩
      case measure => simp [RowKit.intOf]; omega
    · have hd2 : decide (i < ts.length) = false := by simpa using hil
      go_wp2_with fail
      go_ret
      exact ⟨rfl, below_drewN _ _ _⟩

theorem lex_few_any (l : List UInt8) : (Lx.lexL l).1.length ≤ 6000 := by
  by_cases h : 20000 < l.length
  · rw [Lx.lex_long l h]; simp
  · by_cases h0 : (Lx.lexL l).2.1 = 0
    · exact (Lx.lex_chain l h0).2.2.1
    · rw [(Lx.lex_error l (by omega) h0).1]; simp

set_option maxRecDepth 100000 in
theorem matches_any (s : ByteArray) (w : World) (hs : s.size ≤ 140737488355328) (hL : Libs w) : Calls Tryd.prog 3 #[.string s] w (Good w) := by
  have HL := Lib.hid hL
  clear hL
  by_cases h3 : 30000 < s.size
  · have hd : decide (30000 < (s.size : Int)) = true := by simp; omega
    go_enter Tryd.func3, Tryd.ntmps3
    go_wp2_with fail
    refine (head_any w HL.out).mono ?_
    rintro e wa ⟨rfl, hba⟩
    go_wp2_with fail
    go_ret
    exact ⟨rfl, hba⟩
  · have hd : decide (30000 < (s.size : Int)) = false := by simp; omega
    obtain ⟨ts, er, at', hr⟩ : ∃ ts er at', Lx.lexL s.data.toList = (ts, er, at') := ⟨_, _, _, rfl⟩
    have hn6 := lex_few_any s.data.toList
    rw [hr] at hn6
    simp only at hn6
    have de : ((er : Int) == (er : Int)) = true := by simp
    have da : ((at' : Int) == (at' : Int)) = true := by simp
    have HR := Lib.hid hr
    clear hr
    go_enter Tryd.func3, Tryd.ntmps3
    go_wp2_with fail
    refine (head_any w HL.out).mono ?_
    rintro e wa ⟨rfl, hba⟩
    go_wp2_with fail
    refine (lex_spec s wa hs (HL.out.below hba (Nat.le_refl _)) _ _ _ HR.out).mono ?_
    rintro e wb ⟨a, cap, rfl, hrow, hbb⟩
    have hb := hba.trans (hbb.mono hba.size)
    have HROW := Lib.hid hrow
    clear hrow hbb hba
    go_wp2_with fail
    refine (ref_lex s wb hs).mono ?_
    rintro e wc ⟨v, he, hrow2, hnil, hbc⟩
    rw [HR.out] at he hrow2
    obtain ⟨a2, cap2, rfl⟩ := row_shape hrow2
    have he2 : e = .returned (.tuple #[.slice a2 ts.length cap2, .int .i64 er, .int .i64 at']) := he
    subst he2
    have hc := hb.trans (hbc.mono hb.size)
    have HROW1 := Lib.hid (row_below HROW.out hbc)
    have HROW2 := Lib.hid hrow2
    clear hrow2 hnil hbc he
    go_wp2_with fail
    refine (same_any ts a a2 cap cap2 _ _ wc hn6 HROW1.out HROW2.out).mono ?_
    rintro e wd ⟨rfl, hbd⟩
    go_wp2_with fail
    go_ret
    exact ⟨rfl, hc.trans (hbd.mono hc.size)⟩
end Go.Proofs.YtlhfkdeegabbhaaDoor
