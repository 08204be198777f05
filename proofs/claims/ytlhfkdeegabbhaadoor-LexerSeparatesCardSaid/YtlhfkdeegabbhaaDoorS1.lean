/-
  The walk of LexerSeparates.
-/
import Derived.Test.YtlhfkdeegabbhaaDoorM5
import Derived.Test.YtlhfkdeegabbhaaDoorL1
namespace Go.Proofs.YtlhfkdeegabbhaaDoor
open Go.RowKit Go.Lib

theorem Lx.tok_short (l : List UInt8) (h : (Lx.tokAt l).1 ≠ 0) : (Lx.tokAt l).2.1 ≤ 24 := by
  cases l with
  | nil => exact absurd rfl h
  | cons c r =>
    unfold Lx.tokAt at h ⊢
    by_cases hl : Lx.letterB c = true
    · simp only [hl, if_true] at h ⊢
      by_cases hx : 24 < Lx.runLen Lx.wordB (c :: r)
      · rw [if_pos hx] at h; exact absurd rfl h
      · rw [if_neg hx]; simp only; omega
    · have hl' : Lx.letterB c = false := by simpa using hl
      by_cases hd : Lx.digitB c = true
      · simp only [hl', hd, Bool.false_eq_true, if_false, if_true] at h ⊢
        by_cases hx : 10 < Lx.runLen Lx.digitB (c :: r) ∨ 1000000000 < Lx.numVal 0 ((c :: r).take (Lx.runLen Lx.digitB (c :: r)))
        · rw [if_pos hx] at h; exact absurd rfl h
        · rw [if_neg hx]; simp only; omega
      · have hd' : Lx.digitB c = false := by simpa using hd
        simp only [hl', hd', Bool.false_eq_true, if_false] at h ⊢
        by_cases hx : Lx.symLen (c :: r) = 0
        · rw [if_pos hx] at h; exact absurd rfl h
        · rw [if_neg hx]; simp only
          have := Lx.symFrom_le (min 2 (c :: r).length) (c :: r)
          unfold Lx.symLen; omega
theorem Lx.whole_short (t : Lx.Tk) (h : Lx.Whole t) : t.text.length ≤ 24 := by
  have := Lx.tok_short t.text (by rw [h.2.1]; exact h.1)
  rw [h.2.1] at this; exact this
theorem Lx.sep_snoc (t : Lx.Tk) : ∀ (ts : List Lx.Tk), Lx.sepText (ts ++ [t]) = Lx.sepText ts ++ (t.text ++ [32]) := by
  intro ts
  induction ts with
  | nil => simp [Lx.sepText]
  | cons a r ih => simp [Lx.sepText, ih]
theorem Lx.sep_take_len (ts : List Lx.Tk) (h : ∀ t ∈ ts, Lx.Whole t) : ∀ i, (Lx.sepText (ts.take i)).length ≤ 25 * i := by
  intro i
  induction i with
  | zero => simp [Lx.sepText]
  | succ i ih =>
    by_cases hi : i < ts.length
    · rw [List.take_succ_eq_append_getElem hi, Lx.sep_snoc]
      have := Lx.whole_short ts[i] (h _ (List.getElem_mem _))
      simp; omega
    · rw [List.take_of_length_le (by omega)] at ih ⊢; omega

/-- the text of the first tokens -/
def sepB (ts : List Lx.Tk) (i : Nat) : ByteArray := ⟨(Lx.sepText (ts.take i)).toArray⟩
theorem sepB_zero (ts : List Lx.Tk) : sepB ts 0 = ⟨#[]⟩ := rfl
theorem sepB_list (ts : List Lx.Tk) : (sepB ts ts.length).data.toList = Lx.sepText ts := by simp [sepB]
theorem sepB_next (ts : List Lx.Tk) (i : Nat) (t : Lx.Tk) (h : ts[i]? = some t) : sepB ts i ++ (⟨t.text.toArray⟩ : ByteArray) ++ (⟨#[32]⟩ : ByteArray) = sepB ts (i + 1) := by
  obtain ⟨hi, rfl⟩ := List.getElem?_eq_some_iff.1 h
  unfold sepB
  rw [List.take_succ_eq_append_getElem hi, Lx.sep_snoc]
  apply ByteArray.ext
  simp [ByteArray.data_append]
theorem sepB_size (ts : List Lx.Tk) (h : ∀ t ∈ ts, Lx.Whole t) (i : Nat) : (sepB ts i).size ≤ 25 * i := by
  have := Lx.sep_take_len ts h i
  have e : (sepB ts i).size = (Lx.sepText (ts.take i)).length := by simp [sepB, ByteArray.size]
  omega

set_option maxRecDepth 100000 in
theorem separates_any (s : ByteArray) (w : World) (hs : s.size ≤ 140737488355328) (hL : Libs w) : Calls Tryd.prog 7 #[.string s] w (Good w) := by
  have HL := Lib.hid hL
  clear hL
  by_cases h3 : 20000 < s.size
  · have hd : decide (20000 < (s.size : Int)) = true := by simp; omega
    go_enter Tryd.func7, Tryd.ntmps7
    go_wp2_with fail
    refine (head_any w HL.out).mono ?_
    rintro e wa ⟨rfl, hba⟩
    go_wp2_with fail
    go_ret
    exact ⟨rfl, hba⟩
  · have hd : decide (20000 < (s.size : Int)) = false := by simp; omega
    obtain ⟨ts, er, at', hr⟩ : ∃ ts er at', Lx.lexL s.data.toList = (ts, er, at') := ⟨_, _, _, rfl⟩
    have hlen : s.data.toList.length = s.size := by simp
    by_cases h0 : er = 0
    · subst h0
      have hch := (Lx.lex_chain s.data.toList (by rw [hr]))
      rw [hr] at hch
      obtain ⟨_, _, hn6, hch⟩ := hch
      simp only at hn6 hch
      have hwhole := Lx.chain_whole _ _ _ hch
      have hsz := sepB_size ts hwhole
      have hlx : (sepB ts ts.length).size ≤ 20000 → Lx.lexL (sepB ts ts.length).data.toList = (Lx.sepToks 0 ts, 0, 0) := by
        intro h
        rw [sepB_list]
        refine Lx.lex_separate _ ts _ hch hn6 ?_
        rw [← sepB_list]
        have e : (sepB ts ts.length).data.toList.length = (sepB ts ts.length).size := by simp
        omega
      have HR := Lib.hid hr
      have HLX := Lib.hid hlx
      have HSZ := Lib.hid hsz
      have HT : Hid (∀ (i : Nat) (t : Lx.Tk), ts[i]? = some t → t.text.length ≤ 24) := Lib.hid (fun i t h => Lx.whole_short t (hwhole t (List.mem_of_getElem? h)))
      clear hr hch hlen hwhole hlx hsz
      have d6 : decide (6000 < (ts.length : Int)) = false := by simp; omega
      go_enter Tryd.func7, Tryd.ntmps7
      go_wp2_with fail
      refine (head_any w HL.out).mono ?_
      rintro e wa ⟨rfl, hba⟩
      go_wp2_with fail
      refine (lex_spec s wa hs (HL.out.below hba (Nat.le_refl _)) _ _ _ HR.out).mono ?_
      rintro e wb ⟨a, cap, rfl, hrow, hbb⟩
      have hb := hba.trans (hbb.mono hba.size)
      have HROW := Lib.hid hrow
      clear hrow hbb hba
      go_wp2_with fail
      go_loopw [7, 8] (fun vs vi wr => ∃ i : Nat, vi = .int .i64 i ∧ i ≤ ts.length ∧ vs = .string (sepB ts i) ∧ wr = wb) (fun _ vi _ => ts.length - (RowKit.intOf vi).toNat)
      case atStart => exact ⟨0, rfl, by omega, rfl, rfl⟩
      case round =>
        obtain ⟨i, rfl, hi, rfl, rfl⟩ := hrel
        by_cases hil : i < ts.length
        · have hd2 : decide (i < ts.length) = true := by simpa using hil
          obtain ⟨g, cap', hva, _, _, hcap, hcell⟩ := row_cell HROW.out (by omega)
          obtain ⟨rfl, rfl⟩ : a = some ⟨g, 0, none⟩ ∧ cap = cap' := by simpa using hva
          obtain ⟨t, ht⟩ : ∃ t, t = ts[i] := ⟨_, rfl⟩
          have hget : ts[i]? = some t := by rw [ht]; exact List.getElem?_eq_getElem hil
          have cc1 : wr.cell? ⟨g, i * 4 + 1, none⟩ = some (.string ⟨t.text.toArray⟩) := by
            rw [hcell (i * 4 + 1) (by omega), tks_get ts i t hget 1 (by omega)]; rfl
          have hbn := sepB_next ts i t hget
          have hz1 := HSZ.out i
          have hz2 := HSZ.out (i + 1)
          have htl : t.text.length ≤ 24 := HT.out i t hget
          have htz : (⟨t.text.toArray⟩ : ByteArray).size = t.text.length := by simp [ByteArray.size]
          obtain ⟨x, hx⟩ : ∃ x : ByteArray, x = ⟨t.text.toArray⟩ := ⟨_, rfl⟩
          obtain ⟨b0, hb0⟩ : ∃ b0 : ByteArray, b0 = sepB ts i := ⟨_, rfl⟩
          rw [← hx] at cc1 hbn htz
          rw [← hb0] at hbn hz1 ⊢
          have dxl : decide (24 < (x.size : Int)) = false := by simp; omega
          have BN := Lib.hid hbn
          clear hget ht hcell hva hx hb0 hbn
          go_wp2_with fail
          go_roundw
          case rel => exact ⟨i + 1, by go_num, by omega, by rw [← BN.out], by trivial⟩
          case measure => simp [RowKit.intOf]; omega
        · have hd2 : decide (i < ts.length) = false := by simpa using hil
          obtain rfl : i = ts.length := by omega
          obtain ⟨b0, hb0⟩ : ∃ b0 : ByteArray, b0 = sepB ts ts.length := ⟨_, rfl⟩
          have hz1 := HSZ.out ts.length
          have hlx := HLX.out
          rw [← hb0] at hlx hz1 ⊢
          by_cases hlong : 20000 < b0.size
          · have dl : decide (20000 < (b0.size : Int)) = true := by simp; omega
            clear hlx hb0
            go_wp2_with fail
            go_ret
            exact ⟨rfl, hb⟩
          · have dl : decide (20000 < (b0.size : Int)) = false := by simp; omega
            have LX := Lib.hid (hlx (by omega))
            clear hlx hb0
            go_wp2_with fail
            refine (lex_spec b0 wr (by omega) (HL.out.below hb (Nat.le_refl _)) _ _ _ LX.out).mono ?_
            rintro e wc ⟨a2, cap2, rfl, hrow2, hbc⟩
            rw [Lx.sep_len] at *
            have hbd := hb.trans (hbc.mono hb.size)
            have HROW2 := Lib.hid hrow2
            have HBC := Lib.hid hbc
            have DN : (ts.length != ts.length) = false := by simp
            clear hrow2 hbc
            go_wp2_with fail
            go_loopw [12] (fun vi wx => ∃ i : Nat, vi = .int .i64 i ∧ i ≤ ts.length ∧ ∃ n, wx = wc.drewN n) (fun vi _ => ts.length - (RowKit.intOf vi).toNat)
            case atStart => exact ⟨0, rfl, by omega, 0, rfl⟩
            case round =>
              obtain ⟨i, rfl, hi, n, rfl⟩ := hrel
              by_cases hil : i < ts.length
              · have hd2 : decide (i < ts.length) = true := by simpa using hil
                obtain ⟨g, cap', hva, _, hgw, hcap, hcell⟩ := row_cell HROW.out (by omega)
                obtain ⟨rfl, rfl⟩ : a = some ⟨g, 0, none⟩ ∧ cap = cap' := by simpa using hva
                obtain ⟨g2, cap2', hva2, _, _, hcap2, hcell2⟩ := row_cell HROW2.out (by omega)
                obtain ⟨rfl, rfl⟩ : a2 = some ⟨g2, 0, none⟩ ∧ cap2 = cap2' := by simpa using hva2
                obtain ⟨t, ht⟩ : ∃ t, t = ts[i] := ⟨_, rfl⟩
                have hget : ts[i]? = some t := by rw [ht]; exact List.getElem?_eq_getElem hil
                obtain ⟨o2, hget2⟩ := Lx.sep_get ts 0 i t hget
                have hcell' : ∀ j, j < 4 → wc.cell? ⟨g, i * 4 + j, none⟩ = (tkCells t)[j]? := by
                  intro j hj
                  rw [HBC.out.cell (p := ⟨g, i * 4 + j, none⟩) hgw, hcell (i * 4 + j) (by omega), tks_get ts i t hget j hj]
                have hcell2' : ∀ j, j < 4 → wc.cell? ⟨g2, i * 4 + j, none⟩ = (tkCells { t with off := o2 })[j]? := by
                  intro j hj
                  rw [hcell2 (i * 4 + j) (by omega), tks_get _ i _ hget2 j hj]
                obtain ⟨x, hx⟩ : ∃ x : ByteArray, x = ⟨t.text.toArray⟩ := ⟨_, rfl⟩
                have cc0 : wc.cell? ⟨g, i * 4, none⟩ = some (.int .i64 t.kind) := hcell' 0 (by omega)
                have cc1 : wc.cell? ⟨g, i * 4 + 1, none⟩ = some (.string x) := by rw [hcell' 1 (by omega), hx]; rfl
                have cc2 : wc.cell? ⟨g, i * 4 + 2, none⟩ = some (.int .i64 t.num) := hcell' 2 (by omega)
                have ee0 : wc.cell? ⟨g2, i * 4, none⟩ = some (.int .i64 t.kind) := hcell2' 0 (by omega)
                have ee1 : wc.cell? ⟨g2, i * 4 + 1, none⟩ = some (.string x) := by rw [hcell2' 1 (by omega), hx]; rfl
                have ee2 : wc.cell? ⟨g2, i * 4 + 2, none⟩ = some (.int .i64 t.num) := hcell2' 2 (by omega)
                obtain ⟨tk, htk⟩ : ∃ tk : Int, tk = t.kind := ⟨_, rfl⟩
                obtain ⟨tn, htn⟩ : ∃ tn : Int, tn = t.num := ⟨_, rfl⟩
                rw [← htk] at cc0 ee0
                rw [← htn] at cc2 ee2
                clear htk htn hx hget hget2 ht hcell hcell2 hcell' hcell2' hva hva2
                go_wp2_with fail
                go_quiet (fail)
                go_wp2_with fail
                go_roundw
                case rel => exact ⟨i + 1, by go_num, by omega, _, rfl⟩
                case measure => simp [RowKit.intOf]; omega
              · have hd2 : decide (i < ts.length) = false := by simpa using hil
                go_wp2_with fail
                go_ret
                exact ⟨rfl, hbd.trans (below_drewN _ _ _)⟩
    · have he0 : ((er : Int) != 0) = true := by simp; omega
      obtain ⟨g1, _, _, _⟩ := Lx.lex_error s.data.toList (by omega) (by rw [hr]; exact h0)
      rw [hr] at g1
      simp only at g1
      subst g1
      have HR := Lib.hid hr
      clear hr hlen h0
      go_enter Tryd.func7, Tryd.ntmps7
      go_wp2_with fail
      refine (head_any w HL.out).mono ?_
      rintro e wa ⟨rfl, hba⟩
      go_wp2_with fail
      refine (lex_spec s wa hs (HL.out.below hba (Nat.le_refl _)) _ _ _ HR.out).mono ?_
      rintro e wb ⟨a, cap, rfl, hrow, hbb⟩
      have hb := hba.trans (hbb.mono hba.size)
      clear hrow
      go_wp2_with fail
      go_ret
      exact ⟨rfl, hb⟩
end Go.Proofs.YtlhfkdeegabbhaaDoor
