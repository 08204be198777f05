/-
  The walk of LexerCovers.
-/
import Derived.Test.YtlhfkdeegabbhaaDoorW14
import Derived.Test.YtlhfkdeegabbhaaDoorR2
namespace Go.Proofs.YtlhfkdeegabbhaaDoor
open Go.RowKit Go.Lib

theorem gapfn_any (s : ByteArray) (a b : Nat) (w : World) (hs : s.size ≤ 140737488355328) (hab : a ≤ b) (hb : b ≤ s.size) (h : Lx.posEnd s.data.toList a = b) :
    Calls Tryd.prog 13 #[.string s, .int .i64 a, .int .i64 b] w fun e w' => e = .returned (.bool true) ∧ w' = w := by
  have d1 : decide ((a : Int) < 0) = false := by simp
  have d2 : decide (b < a) = false := by simp; omega
  have d3 : decide (s.size < b) = false := by simp; omega
  have hg : gapEndF (s.extract 0 b) a = b := by
    have e1 : (s.extract 0 b).data.toList = s.data.toList.take b := by simp [ByteArray.data_extract]
    unfold gapEndF
    rw [e1, List.drop_take, Lx.gapLen_take]
    unfold Lx.posEnd at h
    omega
  have hsz : (s.extract 0 b).size = b := by rw [ByteArray.size_extract]; omega
  have HG := Lib.hid hg
  have HZ := Lib.hid hsz
  clear hg hsz h
  go_enter Tryd.func13, Tryd.ntmps13
  go_wp2_with fail
  refine (gap_any _ a _ (by rw [HZ.out]; unfold maxLen; omega) (by rw [HZ.out]; exact hab)).mono ?_
  rintro e w' ⟨rfl, rfl⟩
  rw [HG.out]
  go_wp2_with fail
  go_ret
  exact ⟨ret_bool (by simp), rfl⟩

theorem tks_get : ∀ (ts : List Lx.Tk) (i : Nat) (t : Lx.Tk), ts[i]? = some t → ∀ j, j < 4 → (tksCells ts)[i * 4 + j]? = (tkCells t)[j]?
  | [], i, t, h, _, _ => by simp at h
  | a :: r, 0, t, h, j, hj => by
    simp at h; subst h
    rw [Nat.zero_mul, Nat.zero_add]
    show (tkCells a ++ tksCells r)[j]? = _
    rw [List.getElem?_append_left (by simp [tkCells]; omega)]
  | a :: r, i + 1, t, h, j, hj => by
    have := tks_get r i t (by simpa using h) j hj
    show (tkCells a ++ tksCells r)[(i + 1) * 4 + j]? = _
    rw [List.getElem?_append_right (by simp [tkCells]; omega), ← this]
    congr 1
    simp [tkCells]; omega

set_option maxRecDepth 100000 in
theorem covers_any (s : ByteArray) (w : World) (hs : s.size ≤ 140737488355328) (hL : Libs w) : Calls Tryd.prog 4 #[.string s] w (Good w) := by
  have HL := Lib.hid hL
  clear hL
  by_cases h3 : 20000 < s.size
  · have hd : decide (20000 < (s.size : Int)) = true := by simp; omega
    go_enter Tryd.func4, Tryd.ntmps4
    go_wp2_with fail
    refine (head_any w HL.out).mono ?_
    rintro e wa ⟨rfl, hba⟩
    go_wp2_with fail
    go_ret
    exact ⟨rfl, hba⟩
  · have hd : decide (20000 < (s.size : Int)) = false := by simp; omega
    obtain ⟨ts, er, at', hr⟩ : ∃ ts er at', Lx.lexL s.data.toList = (ts, er, at') := ⟨_, _, _, rfl⟩
    have hlen : s.data.toList.length = s.size := by simp
    by_cases h0 : er = 0
    · subst h0
      have hch := (Lx.lex_chain s.data.toList (by rw [hr]))
      rw [hr] at hch
      obtain ⟨_, _, hn6, hch⟩ := hch
      simp only at hn6 hch
      have HR := Lib.hid hr
      have HC := Lib.hid hch
      have HLEN := Lib.hid hlen
      clear hr hch hlen
      go_enter Tryd.func4, Tryd.ntmps4
      go_wp2_with fail
      refine (head_any w HL.out).mono ?_
      rintro e wa ⟨rfl, hba⟩
      go_wp2_with fail
      refine (lex_spec s wa hs (HL.out.below hba (Nat.le_refl _)) _ _ _ HR.out).mono ?_
      rintro e wb ⟨a, cap, rfl, hrow, hbb⟩
      have hb := hba.trans (hbb.mono hba.size)
      have HROW := Lib.hid hrow
      clear hrow hbb hba
      go_wp2_with fail
      go_loopw [7, 8] (fun va vi wr => ∃ i k : Nat, vi = .int .i64 i ∧ i ≤ ts.length ∧ va = .int .i64 k ∧ k ≤ s.size ∧ Lx.Chain s.data.toList (Lx.posEnd s.data.toList k) (ts.drop i) ∧ ∃ n, wr = wb.drewN n) (fun _ vi _ => ts.length - (RowKit.intOf vi).toNat)
      case atStart => exact ⟨0, 0, rfl, by omega, rfl, by omega, HC.out, 0, rfl⟩
      case round =>
        obtain ⟨i, k, rfl, hi, rfl, hk, hc, n, rfl⟩ := hrel
        by_cases hil : i < ts.length
        · have hd2 : decide (i < ts.length) = true := by simpa using hil
          obtain ⟨g, cap', hva, _, _, hcap, hcell⟩ := row_cell HROW.out (by omega)
          obtain ⟨rfl, rfl⟩ : a = some ⟨g, 0, none⟩ ∧ cap = cap' := by simpa using hva
          rw [List.drop_eq_getElem_cons hil] at hc
          obtain ⟨c1, c2, c3, c4, c5, c6, c7, c8⟩ := hc
          obtain ⟨t, ht⟩ : ∃ t, t = ts[i] := ⟨_, rfl⟩
          rw [← ht] at c2 c3 c4 c5 c6 c7 c8
          have hget : ts[i]? = some t := by rw [ht]; exact List.getElem?_eq_getElem hil
          obtain ⟨m, hm⟩ : ∃ m, m = t.text.length := ⟨_, rfl⟩
          obtain ⟨o, ho⟩ : ∃ o, o = t.off := ⟨_, rfl⟩
          have htx : (⟨t.text.toArray⟩ : ByteArray) = s.extract o (o + m) := by
            have e5 := c5
            rw [← hm, ← c2, ← ho] at e5
            rw [ext_eq, ← e5]
          have cc1 : wb.cell? ⟨g, i * 4 + 1, none⟩ = some (.string (s.extract o (o + m))) := by
            rw [hcell (i * 4 + 1) (by omega), tks_get ts i t hget 1 (by omega), ← htx]; rfl
          have cc3 : wb.cell? ⟨g, i * 4 + 3, none⟩ = some (.int .i64 o) := by
            rw [hcell (i * 4 + 3) (by omega), tks_get ts i t hget 3 (by omega), ho]; rfl
          rw [← hm] at c6 c7 c8
          rw [← ho] at c2
          rw [HLEN.out] at c1 c7
          have hok : k ≤ o := by rw [c2]; exact Lx.posEnd_ge _ _
          have hom : o + m ≤ s.size := by omega
          have hmin : min (o + m) s.size = o + m := by omega
          have hgp := Lib.hid (gapfn_any s k o (wb.drewN n) hs hok (by omega) c2.symm)
          rw [← c2] at c8
          have C8 := Lib.hid c8
          clear c1 c2 c3 c4 c5 c7 c8 hget htx ht hm ho hcell hva
          have hdg : decide ((s.size : Int) < (o : Int) + (m : Int)) = false := by simp; omega
          go_wp2_with fail
          refine hgp.out.mono ?_
          rintro e w' ⟨rfl, rfl⟩
          go_wp2_with fail
          go_quiet (fail)
          go_wp2_with fail
          go_quiet (fail)
          go_wp2_with fail
          go_roundw
          case rel => exact ⟨i + 1, o + m, by go_num, by omega, by go_num, hom, C8.out, _, rfl⟩
          case measure => simp [RowKit.intOf]; omega
        · have hd2 : decide (i < ts.length) = false := by simpa using hil
          rw [List.drop_of_length_le (by omega)] at hc
          have hpe : Lx.posEnd s.data.toList k = s.size := by
            have h1 : s.data.toList.length ≤ Lx.posEnd s.data.toList k := hc
            have h2 := Lx.posEnd_le s.data.toList k (by rw [HLEN.out]; exact hk)
            rw [HLEN.out] at h1 h2
            omega
          have hgp := Lib.hid (gapfn_any s k s.size (wb.drewN n) hs hk (Nat.le_refl _) hpe)
          clear hc hpe
          go_wp2_with fail
          refine hgp.out.mono ?_
          rintro e w' ⟨rfl, rfl⟩
          go_wp2_with fail
          go_ret
          exact ⟨rfl, hb.trans (below_drewN _ _ _)⟩
    · have he0 : ((er : Int) != 0) = true := by simp; omega
      obtain ⟨g1, _, _, _⟩ := Lx.lex_error s.data.toList (by omega) (by rw [hr]; exact h0)
      rw [hr] at g1
      simp only at g1
      subst g1
      have HR := Lib.hid hr
      clear hr hlen h0
      go_enter Tryd.func4, Tryd.ntmps4
      go_wp2_with fail
      refine (head_any w HL.out).mono ?_
      rintro e wa ⟨rfl, hba⟩
      go_wp2_with fail
      refine (lex_spec s wa hs (HL.out.below hba (Nat.le_refl _)) _ _ _ HR.out).mono ?_
      rintro e wb ⟨a, cap, rfl, hrow, hbb⟩
      have hb := hba.trans (hbb.mono hba.size)
      clear hrow
      go_wp2_with fail
      go_ret
      exact ⟨rfl, hb⟩
end Go.Proofs.YtlhfkdeegabbhaaDoor
