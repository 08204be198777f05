/-
  The walk of LexerConcatenates.
-/
import Derived.Test.YtlhfkdeegabbhaaDoorM5
import Derived.Test.YtlhfkdeegabbhaaDoorL1
namespace Go.Proofs.YtlhfkdeegabbhaaDoor
open Go.RowKit Go.Lib

/-- the two texts with a line feed between them -/
def catB (a b : ByteArray) : ByteArray := a ++ (⟨#[10]⟩ : ByteArray) ++ b
theorem catB_list (a b : ByteArray) : (catB a b).data.toList = a.data.toList ++ 10 :: b.data.toList := by simp [catB, ByteArray.data_append]
theorem catB_size (a b : ByteArray) : (catB a b).size = a.size + b.size + 1 := by
  have h : (⟨#[10]⟩ : ByteArray).size = 1 := rfl
  simp only [catB, ByteArray.size_append, h]; omega

/-- what the third call answers, if the first two have no error -/
theorem cat_lex (a b : ByteArray) (ts us : List Lx.Tk) (o1 o2 : Nat) (ha : Lx.lexL a.data.toList = (ts, 0, o1)) (hb : Lx.lexL b.data.toList = (us, 0, o2)) (hz : a.size + b.size + 1 ≤ 20000) :
    (ts.length + us.length ≤ 6000 → Lx.lexL (catB a b).data.toList = (ts ++ us.map (Lx.shift (a.size + 1)), 0, 0)) ∧
    (6000 < ts.length + us.length → (Lx.lexL (catB a b).data.toList).2.1 = 2) := by
  have h1 := Lx.lex_chain a.data.toList (by rw [ha])
  have h2 := Lx.lex_chain b.data.toList (by rw [hb])
  rw [ha] at h1
  rw [hb] at h2
  obtain ⟨_, _, _, h1⟩ := h1
  obtain ⟨_, _, _, h2⟩ := h2
  have h3 := Lx.lex_concat _ _ _ _ h1 h2
  rw [← catB_list] at h3
  have e1 : (catB a b).data.toList.length = (catB a b).size := by simp
  have e2 : a.data.toList.length = a.size := by simp
  have h4 := Lx.chain_lex (catB a b).data.toList _ (by rw [e1, catB_size]; exact hz) h3
  rw [e2] at h4
  simp only [List.length_append, List.length_map] at h4
  exact h4

theorem lex_few (a : ByteArray) (ts : List Lx.Tk) (o : Nat) (ha : Lx.lexL a.data.toList = (ts, 0, o)) : ts.length ≤ 6000 := by
  have h1 := Lx.lex_chain a.data.toList (by rw [ha])
  rw [ha] at h1
  exact h1.2.2.1

set_option maxRecDepth 100000 in
theorem concatenates_any (a b : ByteArray) (w : World) (hs : a.size ≤ 140737488355328) (hs2 : b.size ≤ 140737488355328) (hL : Libs w) : Calls Tryd.prog 6 #[.string a, .string b] w (Good w) := by
  have HL := Lib.hid hL
  clear hL
  by_cases h3 : 10000 < a.size
  · have hd : decide (10000 < (a.size : Int)) = true := by simp; omega
    go_enter Tryd.func6, Tryd.ntmps6
    go_wp2_with fail
    refine (head_any w HL.out).mono ?_
    rintro e wa ⟨rfl, hba⟩
    go_wp2_with fail
    go_ret
    exact ⟨rfl, hba⟩
  have hd : decide (10000 < (a.size : Int)) = false := by simp; omega
  by_cases h4 : 10000 < b.size
  · have hd2 : decide (10000 < (b.size : Int)) = true := by simp; omega
    go_enter Tryd.func6, Tryd.ntmps6
    go_wp2_with fail
    refine (head_any w HL.out).mono ?_
    rintro e wa ⟨rfl, hba⟩
    go_wp2_with fail
    go_ret
    exact ⟨rfl, hba⟩
  have hd2 : decide (10000 < (b.size : Int)) = false := by simp; omega
  obtain ⟨ts, er, at1, hr⟩ : ∃ ts er at', Lx.lexL a.data.toList = (ts, er, at') := ⟨_, _, _, rfl⟩
  obtain ⟨us, er2, at2, hr2⟩ : ∃ ts er at', Lx.lexL b.data.toList = (ts, er, at') := ⟨_, _, _, rfl⟩
  obtain ⟨zs, er3, at3, hr3⟩ : ∃ ts er at', Lx.lexL (catB a b).data.toList = (ts, er, at') := ⟨_, _, _, rfl⟩
  have hcz := catB_size a b
  have hcat : catB a b = a ++ (⟨#[10]⟩ : ByteArray) ++ b := rfl
  obtain ⟨z, hz⟩ : ∃ z : ByteArray, z = catB a b := ⟨_, rfl⟩
  by_cases h0 : er = 0
  · subst h0
    by_cases h02 : er2 = 0
    · subst h02
      have hn1 := lex_few a ts at1 hr
      have hn2 := lex_few b us at2 hr2
      by_cases hlong : 20000 < a.size + b.size + 1
      · have e3 := Lx.lex_long (catB a b).data.toList (by rw [catB_list]; simp; omega)
        rw [hr3] at e3
        obtain ⟨rfl, rfl, rfl⟩ : zs = [] ∧ er3 = 2 ∧ at3 = 20000 := by simpa using e3
        have dl : decide (20000 < (a.size : Int) + (b.size : Int) + 1) = true := by simp; omega
        clear e3
        by_cases hm : 6000 < ts.length + us.length
        · have dm : decide (6000 < (ts.length : Int) + (us.length : Int)) = true := by simp; omega
          rw [← hz] at hr3 hcz hcat
          have HR := Lib.hid hr
          have HR2 := Lib.hid hr2
          have HR3 := Lib.hid hr3
          have HC := Lib.hid hcat
          clear hr hr2 hr3 hcat hz
          go_enter Tryd.func6, Tryd.ntmps6
          go_wp2_with fail
          refine (head_any w HL.out).mono ?_
          rintro e wa ⟨rfl, hba⟩
          go_wp2_with fail
          refine (lex_spec a wa hs (HL.out.below hba (Nat.le_refl _)) _ _ _ HR.out).mono ?_
          rintro e wb ⟨pa, cap, rfl, hrow, hbb⟩
          have hb := hba.trans (hbb.mono hba.size)
          have ROW := Lib.hid hrow
          clear hrow
          go_wp2_with fail
          refine (lex_spec b wb hs2 (HL.out.below hb (Nat.le_refl _)) _ _ _ HR2.out).mono ?_
          rintro e wc ⟨pb, cap2, rfl, hrow, hbc⟩
          have hc := hb.trans (hbc.mono hb.size)
          have ROW2 := Lib.hid hrow
          clear hrow
          go_wp2_with fail
          rw [← HC.out]
          refine (lex_spec z wc (by omega) (HL.out.below hc (Nat.le_refl _)) _ _ _ HR3.out).mono ?_
          rintro e wd ⟨pc, cap3, rfl, hrow, hbd⟩
          have hdd := hc.trans (hbd.mono hc.size)
          have ROW3 := Lib.hid hrow
          clear hrow
          go_wp2_with fail
          go_ret
          exact ⟨rfl, hdd⟩
        · have dm : decide (6000 < (ts.length : Int) + (us.length : Int)) = false := by simp; omega
          rw [← hz] at hr3 hcz hcat
          have HR := Lib.hid hr
          have HR2 := Lib.hid hr2
          have HR3 := Lib.hid hr3
          have HC := Lib.hid hcat
          clear hr hr2 hr3 hcat hz
          go_enter Tryd.func6, Tryd.ntmps6
          go_wp2_with fail
          refine (head_any w HL.out).mono ?_
          rintro e wa ⟨rfl, hba⟩
          go_wp2_with fail
          refine (lex_spec a wa hs (HL.out.below hba (Nat.le_refl _)) _ _ _ HR.out).mono ?_
          rintro e wb ⟨pa, cap, rfl, hrow, hbb⟩
          have hb := hba.trans (hbb.mono hba.size)
          have ROW := Lib.hid hrow
          clear hrow
          go_wp2_with fail
          refine (lex_spec b wb hs2 (HL.out.below hb (Nat.le_refl _)) _ _ _ HR2.out).mono ?_
          rintro e wc ⟨pb, cap2, rfl, hrow, hbc⟩
          have hc := hb.trans (hbc.mono hb.size)
          have ROW2 := Lib.hid hrow
          clear hrow
          go_wp2_with fail
          rw [← HC.out]
          refine (lex_spec z wc (by omega) (HL.out.below hc (Nat.le_refl _)) _ _ _ HR3.out).mono ?_
          rintro e wd ⟨pc, cap3, rfl, hrow, hbd⟩
          have hdd := hc.trans (hbd.mono hc.size)
          have ROW3 := Lib.hid hrow
          clear hrow
          go_wp2_with fail
          go_ret
          exact ⟨rfl, hdd⟩
      · have dl : decide (20000 < (a.size : Int) + (b.size : Int) + 1) = false := by simp; omega
        obtain ⟨k1, k2⟩ := cat_lex a b ts us at1 at2 hr hr2 (by omega)
        by_cases hm : 6000 < ts.length + us.length
        · have e3 := k2 hm
          rw [hr3] at e3
          simp only at e3
          subst e3
          have dm : decide (6000 < (ts.length : Int) + (us.length : Int)) = true := by simp; omega
          clear k1 k2
          rw [← hz] at hr3 hcz hcat
          have HR := Lib.hid hr
          have HR2 := Lib.hid hr2
          have HR3 := Lib.hid hr3
          have HC := Lib.hid hcat
          clear hr hr2 hr3 hcat hz
          go_enter Tryd.func6, Tryd.ntmps6
          go_wp2_with fail
          refine (head_any w HL.out).mono ?_
          rintro e wa ⟨rfl, hba⟩
          go_wp2_with fail
          refine (lex_spec a wa hs (HL.out.below hba (Nat.le_refl _)) _ _ _ HR.out).mono ?_
          rintro e wb ⟨pa, cap, rfl, hrow, hbb⟩
          have hb := hba.trans (hbb.mono hba.size)
          have ROW := Lib.hid hrow
          clear hrow
          go_wp2_with fail
          refine (lex_spec b wb hs2 (HL.out.below hb (Nat.le_refl _)) _ _ _ HR2.out).mono ?_
          rintro e wc ⟨pb, cap2, rfl, hrow, hbc⟩
          have hc := hb.trans (hbc.mono hb.size)
          have ROW2 := Lib.hid hrow
          clear hrow
          go_wp2_with fail
          rw [← HC.out]
          refine (lex_spec z wc (by omega) (HL.out.below hc (Nat.le_refl _)) _ _ _ HR3.out).mono ?_
          rintro e wd ⟨pc, cap3, rfl, hrow, hbd⟩
          have hdd := hc.trans (hbd.mono hc.size)
          have ROW3 := Lib.hid hrow
          clear hrow
          go_wp2_with fail
          go_ret
          exact ⟨rfl, hdd⟩
        · have e3 := k1 (by omega)
          rw [hr3] at e3
          obtain ⟨rfl, rfl, rfl⟩ : zs = ts ++ us.map (Lx.shift (a.size + 1)) ∧ er3 = 0 ∧ at3 = 0 := by simpa using e3
          have dm : decide (6000 < (ts.length : Int) + (us.length : Int)) = false := by simp; omega
          have zl : (ts ++ us.map (Lx.shift (a.size + 1))).length = ts.length + us.length := by simp
          have dq : ((((ts.length + us.length : Nat) : Int)) != (ts.length : Int) + us.length) = false := by simp
          have HO : Hid (∀ (k : Nat) (t : Lx.Tk), us[k]? = some t → t.off ≤ 10000) := Lib.hid (by
            intro k t hk
            have h := Lx.lex_chain b.data.toList (by rw [hr2])
            rw [hr2] at h
            obtain ⟨_, _, _, h⟩ := h
            obtain ⟨_, _, _, _, q⟩ := Lx.chain_at _ _ _ k t h hk
            have e2 : b.data.toList.length = b.size := by simp
            omega)
          clear e3 k1 k2
          rw [← hz] at hr3 hcz hcat
          have HR := Lib.hid hr
          have HR2 := Lib.hid hr2
          have HR3 := Lib.hid hr3
          have HC := Lib.hid hcat
          clear hr hr2 hr3 hcat hz
          go_enter Tryd.func6, Tryd.ntmps6
          go_wp2_with fail
          refine (head_any w HL.out).mono ?_
          rintro e wa ⟨rfl, hba⟩
          go_wp2_with fail
          refine (lex_spec a wa hs (HL.out.below hba (Nat.le_refl _)) _ _ _ HR.out).mono ?_
          rintro e wb ⟨pa, cap, rfl, hrow, hbb⟩
          have hb := hba.trans (hbb.mono hba.size)
          have ROW := Lib.hid hrow
          clear hrow
          go_wp2_with fail
          refine (lex_spec b wb hs2 (HL.out.below hb (Nat.le_refl _)) _ _ _ HR2.out).mono ?_
          rintro e wc ⟨pb, cap2, rfl, hrow, hbc⟩
          have hc := hb.trans (hbc.mono hb.size)
          have ROW2 := Lib.hid hrow
          clear hrow
          go_wp2_with fail
          rw [← HC.out]
          refine (lex_spec z wc (by omega) (HL.out.below hc (Nat.le_refl _)) _ _ _ HR3.out).mono ?_
          rintro e wd ⟨pc, cap3, rfl, hrow, hbd⟩
          rw [zl] at hrow ⊢
          have hdd := hc.trans (hbd.mono hc.size)
          have ROW3 := Lib.hid hrow
          clear hrow
          go_wp2_with fail
          go_loopw [15] (fun vi wr => ∃ i : Nat, vi = .int .i64 i ∧ i ≤ ts.length + us.length ∧ Below wd.heap.size wd wr) (fun vi _ => ts.length + us.length - (RowKit.intOf vi).toNat)
          case atStart => exact ⟨0, rfl, by omega, Below.refl _ _⟩
          case round =>
            obtain ⟨i, rfl, hi, hbw⟩ := hrel
            by_cases hil : i < ts.length + us.length
            · have hd3 : decide ((i : Int) < (ts.length : Int) + us.length) = true := by simp; omega
              have hd3' : decide (i < ts.length + us.length) = true := by simp; omega
              obtain ⟨g3, cap3', hva3, _, hgw3, hcap3, hcell3⟩ := row_cell ROW3.out (by omega)
              obtain ⟨rfl, rfl⟩ : pc = some ⟨g3, 0, none⟩ ∧ cap3 = cap3' := by simpa using hva3
              by_cases hit : i < ts.length
              · have hd4 : decide ((i : Int) < (ts.length : Int)) = true := by simp; omega
                have hd4' : decide (i < ts.length) = true := by simp; omega
                obtain ⟨g, cap', hva, _, hgw, hcap, hcell⟩ := row_cell ROW.out (by omega)
                obtain ⟨rfl, rfl⟩ : pa = some ⟨g, 0, none⟩ ∧ cap = cap' := by simpa using hva
                obtain ⟨t, ht⟩ : ∃ t, t = ts[i] := ⟨_, rfl⟩
                have hget : ts[i]? = some t := by rw [ht]; exact List.getElem?_eq_getElem hit
                have hget3 : (ts ++ us.map (Lx.shift (a.size + 1)))[i]? = some t := by rw [List.getElem?_append_left hit]; exact hget
                have hgc : g < wd.heap.size := Nat.lt_of_lt_of_le (Nat.lt_of_lt_of_le hgw hbc.size) hbd.size
                have hgr : g < wr.heap.size := Nat.lt_of_lt_of_le hgc hbw.size
                have hg3 : g3 < wr.heap.size := Nat.lt_of_lt_of_le hgw3 hbw.size
                obtain ⟨x, hx⟩ : ∃ x : ByteArray, x = ⟨t.text.toArray⟩ := ⟨_, rfl⟩
                obtain ⟨tk, htk⟩ : ∃ tk : Int, tk = t.kind := ⟨_, rfl⟩
                obtain ⟨tn, htn⟩ : ∃ tn : Int, tn = t.num := ⟨_, rfl⟩
                have hall : ∀ j, j < 4 → wr.cell? ⟨g, i * 4 + j, none⟩ = (tkCells t)[j]? := by
                  intro j hj
                  rw [hbw.cell (p := ⟨g, i * 4 + j, none⟩) hgc, hbd.cell (p := ⟨g, i * 4 + j, none⟩) (Nat.lt_of_lt_of_le hgw hbc.size), hbc.cell (p := ⟨g, i * 4 + j, none⟩) hgw, hcell (i * 4 + j) (by omega), tks_get ts i t hget j hj]
                have hall3 : ∀ j, j < 4 → wr.cell? ⟨g3, i * 4 + j, none⟩ = (tkCells t)[j]? := by
                  intro j hj
                  rw [hbw.cell (p := ⟨g3, i * 4 + j, none⟩) hgw3, hcell3 (i * 4 + j) (by omega), tks_get _ i _ hget3 j hj]
                have c0 : wr.cell? ⟨g, i * 4, none⟩ = some (.int .i64 tk) := by rw [htk]; exact hall 0 (by omega)
                have c1 : wr.cell? ⟨g, i * 4 + 1, none⟩ = some (.string x) := by rw [hx]; exact hall 1 (by omega)
                have c2 : wr.cell? ⟨g, i * 4 + 2, none⟩ = some (.int .i64 tn) := by rw [htn]; exact hall 2 (by omega)
                have c3 : wr.cell? ⟨g, i * 4 + 3, none⟩ = some (.int .i64 t.off) := hall 3 (by omega)
                have e0 : wr.cell? ⟨g3, i * 4, none⟩ = some (.int .i64 tk) := by rw [htk]; exact hall3 0 (by omega)
                have e1 : wr.cell? ⟨g3, i * 4 + 1, none⟩ = some (.string x) := by rw [hx]; exact hall3 1 (by omega)
                have e2 : wr.cell? ⟨g3, i * 4 + 2, none⟩ = some (.int .i64 tn) := by rw [htn]; exact hall3 2 (by omega)
                have e3 : wr.cell? ⟨g3, i * 4 + 3, none⟩ = some (.int .i64 t.off) := hall3 3 (by omega)
                have HB := Lib.hid hbw
                clear hall hall3 htk htn hx hget hget3 ht hcell hva hva3 hbw hcell3 hgc
                go_wp2_with fail
                go_quiet (fail)
                go_wp2_with fail
                go_roundw
                case rel => exact ⟨i + 1, by go_num, by omega, (HB.out.alloc HB.out.size _).trans (below_drewN _ _ _)⟩
                case measure => simp [RowKit.intOf]; omega
              · have hd4 : decide ((i : Int) < (ts.length : Int)) = false := by simp; omega
                have hd4' : decide (i < ts.length) = false := by simp; omega
                obtain ⟨k, rfl⟩ : ∃ k, i = ts.length + k := ⟨i - ts.length, by omega⟩
                have hku : k < us.length := by omega
                have hsub : (((ts.length + k : Nat) : Int)) - (ts.length : Int) = k := by omega
                have hsub' : (ts.length : Int) + (k : Int) - (ts.length : Int) = k := by omega
                obtain ⟨g, cap', hva, _, hgw, hcap, hcell⟩ := row_cell ROW2.out (by omega)
                obtain ⟨rfl, rfl⟩ : pb = some ⟨g, 0, none⟩ ∧ cap2 = cap' := by simpa using hva
                obtain ⟨t, ht⟩ : ∃ t, t = us[k] := ⟨_, rfl⟩
                have hget : us[k]? = some t := by rw [ht]; exact List.getElem?_eq_getElem hku
                have hoff : t.off ≤ 10000 := HO.out k t hget
                have hget3 : (ts ++ us.map (Lx.shift (a.size + 1)))[ts.length + k]? = some (Lx.shift (a.size + 1) t) := by rw [List.getElem?_append_right (by omega), Nat.add_sub_cancel_left, List.getElem?_map, hget]; rfl
                have hgc : g < wd.heap.size := Nat.lt_of_lt_of_le hgw hbd.size
                have hgr : g < wr.heap.size := Nat.lt_of_lt_of_le hgc hbw.size
                have hg3 : g3 < wr.heap.size := Nat.lt_of_lt_of_le hgw3 hbw.size
                obtain ⟨x, hx⟩ : ∃ x : ByteArray, x = ⟨t.text.toArray⟩ := ⟨_, rfl⟩
                obtain ⟨tk, htk⟩ : ∃ tk : Int, tk = t.kind := ⟨_, rfl⟩
                obtain ⟨tn, htn⟩ : ∃ tn : Int, tn = t.num := ⟨_, rfl⟩
                have hall : ∀ j, j < 4 → wr.cell? ⟨g, k * 4 + j, none⟩ = (tkCells t)[j]? := by
                  intro j hj
                  rw [hbw.cell (p := ⟨g, k * 4 + j, none⟩) hgc, hbd.cell (p := ⟨g, k * 4 + j, none⟩) hgw, hcell (k * 4 + j) (by omega), tks_get us k t hget j hj]
                have hall3 : ∀ j, j < 4 → wr.cell? ⟨g3, (ts.length + k) * 4 + j, none⟩ = (tkCells (Lx.shift (a.size + 1) t))[j]? := by
                  intro j hj
                  rw [hbw.cell (p := ⟨g3, (ts.length + k) * 4 + j, none⟩) hgw3, hcell3 ((ts.length + k) * 4 + j) (by omega), tks_get _ (ts.length + k) _ hget3 j hj]
                have c0 : wr.cell? ⟨g, k * 4, none⟩ = some (.int .i64 tk) := by rw [htk]; exact hall 0 (by omega)
                have c1 : wr.cell? ⟨g, k * 4 + 1, none⟩ = some (.string x) := by rw [hx]; exact hall 1 (by omega)
                have c2 : wr.cell? ⟨g, k * 4 + 2, none⟩ = some (.int .i64 tn) := by rw [htn]; exact hall 2 (by omega)
                have c3 : wr.cell? ⟨g, k * 4 + 3, none⟩ = some (.int .i64 t.off) := hall 3 (by omega)
                have e0 : wr.cell? ⟨g3, (ts.length + k) * 4, none⟩ = some (.int .i64 tk) := by rw [htk]; exact hall3 0 (by omega)
                have e1 : wr.cell? ⟨g3, (ts.length + k) * 4 + 1, none⟩ = some (.string x) := by rw [hx]; exact hall3 1 (by omega)
                have e2 : wr.cell? ⟨g3, (ts.length + k) * 4 + 2, none⟩ = some (.int .i64 tn) := by rw [htn]; exact hall3 2 (by omega)
                have e3 : wr.cell? ⟨g3, (ts.length + k) * 4 + 3, none⟩ = some (.int .i64 ((t.off : Int) + a.size + 1)) := by rw [hall3 3 (by omega)]; show some (Value.int .i64 ((t.off + (a.size + 1) : Nat) : Int)) = _; congr 2 <;> omega
                have HB := Lib.hid hbw
                clear hall hall3 htk htn hx hget hget3 ht hcell hva hva3 hbw hcell3 hgc
                go_wp2_with fail
                go_quiet (fail)
                go_wp2_with fail
                go_roundw
                case rel => exact ⟨ts.length + k + 1, by go_num, by omega, (HB.out.alloc HB.out.size _).trans (below_drewN _ _ _)⟩
                case measure => simp [RowKit.intOf]; omega
            · have hd3 : decide ((i : Int) < (ts.length : Int) + us.length) = false := by simp; omega
              have hd3' : decide (i < ts.length + us.length) = false := by simp; omega
              go_wp2_with fail
              go_ret
              exact ⟨rfl, hdd.trans (hbw.mono hdd.size)⟩
    · have he0 : ((er2 : Int) != 0) = true := by simp; omega
      rw [← hz] at hr3 hcz hcat
      have HR := Lib.hid hr
      have HR2 := Lib.hid hr2
      have HR3 := Lib.hid hr3
      have HC := Lib.hid hcat
      clear hr hr2 hr3 hcat hz h02
      go_enter Tryd.func6, Tryd.ntmps6
      go_wp2_with fail
      refine (head_any w HL.out).mono ?_
      rintro e wa ⟨rfl, hba⟩
      go_wp2_with fail
      refine (lex_spec a wa hs (HL.out.below hba (Nat.le_refl _)) _ _ _ HR.out).mono ?_
      rintro e wb ⟨pa, cap, rfl, hrow, hbb⟩
      have hb := hba.trans (hbb.mono hba.size)
      have ROW := Lib.hid hrow
      clear hrow
      go_wp2_with fail
      refine (lex_spec b wb hs2 (HL.out.below hb (Nat.le_refl _)) _ _ _ HR2.out).mono ?_
      rintro e wc ⟨pb, cap2, rfl, hrow, hbc⟩
      have hc := hb.trans (hbc.mono hb.size)
      have ROW2 := Lib.hid hrow
      clear hrow
      go_wp2_with fail
      rw [← HC.out]
      refine (lex_spec z wc (by omega) (HL.out.below hc (Nat.le_refl _)) _ _ _ HR3.out).mono ?_
      rintro e wd ⟨pc, cap3, rfl, hrow, hbd⟩
      have hdd := hc.trans (hbd.mono hc.size)
      have ROW3 := Lib.hid hrow
      clear hrow
      go_wp2_with fail
      go_ret
      exact ⟨rfl, hdd⟩
  · have he0 : ((er : Int) != 0) = true := by simp; omega
    rw [← hz] at hr3 hcz hcat
    have HR := Lib.hid hr
    have HR2 := Lib.hid hr2
    have HR3 := Lib.hid hr3
    have HC := Lib.hid hcat
    clear hr hr2 hr3 hcat hz h0
    go_enter Tryd.func6, Tryd.ntmps6
    go_wp2_with fail
    refine (head_any w HL.out).mono ?_
    rintro e wa ⟨rfl, hba⟩
    go_wp2_with fail
    refine (lex_spec a wa hs (HL.out.below hba (Nat.le_refl _)) _ _ _ HR.out).mono ?_
    rintro e wb ⟨pa, cap, rfl, hrow, hbb⟩
    have hb := hba.trans (hbb.mono hba.size)
    have ROW := Lib.hid hrow
    clear hrow
    go_wp2_with fail
    refine (lex_spec b wb hs2 (HL.out.below hb (Nat.le_refl _)) _ _ _ HR2.out).mono ?_
    rintro e wc ⟨pb, cap2, rfl, hrow, hbc⟩
    have hc := hb.trans (hbc.mono hb.size)
    have ROW2 := Lib.hid hrow
    clear hrow
    go_wp2_with fail
    rw [← HC.out]
    refine (lex_spec z wc (by omega) (HL.out.below hc (Nat.le_refl _)) _ _ _ HR3.out).mono ?_
    rintro e wd ⟨pc, cap3, rfl, hrow, hbd⟩
    have hdd := hc.trans (hbd.mono hc.size)
    have ROW3 := Lib.hid hrow
    clear hrow
    go_wp2_with fail
    go_ret
    exact ⟨rfl, hdd⟩
end Go.Proofs.YtlhfkdeegabbhaaDoor
