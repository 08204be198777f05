/-
  The walk of LexerLongest.
-/
import Derived.Test.YtlhfkdeegabbhaaDoorL1
import Derived.Test.YtlhfkdeegabbhaaDoorM4
namespace Go.Proofs.YtlhfkdeegabbhaaDoor
open Go.RowKit Go.Lib

/-- the symbols as the reference lists them -/
def refSyms : List (List UInt8) := [[58, 58], [61, 61], [38, 33], [45, 62], [60], [62], [40], [41], [123], [125], [91], [93], [44], [59], [58], [46], [61], [43], [45], [42], [38]]
def rsB (j : Nat) : ByteArray := ⟨(refSyms.getD j []).toArray⟩
theorem rs_sym (j : Nat) (h : j < 21) : Lx.isSym (rsB j).data.toList = true := by
  have : ∀ j, j < 21 → Lx.isSym (rsB j).data.toList = true := by decide +kernel
  exact this j h

theorem symbols_any (w : World) : Calls Tryd.prog 16 #[] w fun e w' => e = .returned (.slice (some ⟨w.heap.size, 0, none⟩) 21 21) ∧
    (∀ j, j < 21 → w'.cell? ⟨w.heap.size, j, none⟩ = some (.string (rsB j))) ∧ w'.heap.size = w.heap.size + 1 ∧ Below w.heap.size w w' := by
  go_enter Tryd.func16, Tryd.ntmps16
  go_wp2
  go_ret
  refine ⟨rfl, fun j hj => ?_, by simp, (Below.refl _ _).alloc (Nat.le_refl _) _⟩
  rw [World.cell?_alloc_new]
  have e : #[Value.string ⟨#[58, 58]⟩, .string ⟨#[61, 61]⟩, .string ⟨#[38, 33]⟩, .string ⟨#[45, 62]⟩, .string ⟨#[60]⟩, .string ⟨#[62]⟩, .string ⟨#[40]⟩, .string ⟨#[41]⟩, .string ⟨#[123]⟩, .string ⟨#[125]⟩, .string ⟨#[91]⟩, .string ⟨#[93]⟩, .string ⟨#[44]⟩, .string ⟨#[59]⟩, .string ⟨#[58]⟩, .string ⟨#[46]⟩, .string ⟨#[61]⟩, .string ⟨#[43]⟩, .string ⟨#[45]⟩, .string ⟨#[42]⟩, .string ⟨#[38]⟩] = ((List.range 21).map fun j => Value.string (rsB j)).toArray := rfl
  rw [e, List.getElem?_toArray, List.getElem?_map, List.getElem?_range hj]; rfl

theorem list_at (s : ByteArray) (o m : Nat) (h : o + m < s.size) : (s.data.toList.drop o)[m]? = some s[o + m] := by
  rw [List.getElem?_drop]
  have : o + m < s.data.toList.length := by simpa using h
  rw [List.getElem?_eq_getElem this]; rfl

theorem no_longer (s : ByteArray) (o m k : Nat) (hk : k < 21) (h1 : m = Lx.symLen (s.data.toList.drop o)) (h2 : m ≠ 0) (h : o + m < s.size) : ((rsB k).toList == (s.extract o (o + m + 1)).toList) = false := by
  rw [beq_eq_false_iff_ne]
  intro e
  rw [ByteArray.toList_eq, ByteArray.toList_eq, list_ext s o (o + m + 1) (by omega), show o + m + 1 - o = m + 1 from by omega] at e
  have a := rs_sym k hk
  have b := Lx.sym_next (s.data.toList.drop o) (by rw [← h1]; exact h2) (by rw [← h1]; simp; omega)
  rw [← h1] at b
  rw [e, b] at a
  cases a

set_option maxRecDepth 100000 in
set_option maxHeartbeats 2000000 in
theorem longest_any (s : ByteArray) (w : World) (hs : s.size ≤ 140737488355328) (hL : Libs w) : Calls Tryd.prog 5 #[.string s] w (Good w) := by
  have HL := Lib.hid hL
  clear hL
  by_cases h3 : 20000 < s.size
  · have hd : decide (20000 < (s.size : Int)) = true := by simp; omega
    go_enter Tryd.func5, Tryd.ntmps5
    go_wp2_with fail
    refine (head_any w HL.out).mono ?_
    rintro e wa ⟨rfl, hba⟩
    go_wp2_with fail
    go_ret
    exact ⟨rfl, hba⟩
  · have hd : decide (20000 < (s.size : Int)) = false := by simp; omega
    obtain ⟨ts, er, at', hr⟩ : ∃ ts er at', Lx.lexL s.data.toList = (ts, er, at') := ⟨_, _, _, rfl⟩
    have hlen : s.data.toList.length = s.size := by simp
    by_cases h0 : er = 0
    · subst h0
      have hch := (Lx.lex_chain s.data.toList (by rw [hr]))
      rw [hr] at hch
      obtain ⟨_, _, hn6, hch⟩ := hch
      simp only at hn6 hch
      have HR := Lib.hid hr
      have HC := Lib.hid hch
      have HLEN := Lib.hid hlen
      clear hr hch hlen
      go_enter Tryd.func5, Tryd.ntmps5
      go_wp2_with fail
      refine (head_any w HL.out).mono ?_
      rintro e wa ⟨rfl, hba⟩
      go_wp2_with fail
      refine (lex_spec s wa hs (HL.out.below hba (Nat.le_refl _)) _ _ _ HR.out).mono ?_
      rintro e wb ⟨a, cap, rfl, hrow, hbb⟩
      have hb := hba.trans (hbb.mono hba.size)
      have HROW := Lib.hid hrow
      clear hrow hbb hba
      go_wp2_with fail
      go_loopw [7] (fun vi wr => ∃ i : Nat, vi = .int .i64 i ∧ i ≤ ts.length ∧ Below wb.heap.size wb wr) (fun vi _ => ts.length - (RowKit.intOf vi).toNat)
      case atStart => exact ⟨0, rfl, by omega, Below.refl _ _⟩
      case round =>
        obtain ⟨i, rfl, hi, hbw⟩ := hrel
        by_cases hil : i < ts.length
        · have hd2 : decide (i < ts.length) = true := by simpa using hil
          obtain ⟨g, cap', hva, _, hgw, hcap, hcell⟩ := row_cell HROW.out (by omega)
          obtain ⟨rfl, rfl⟩ : a = some ⟨g, 0, none⟩ ∧ cap = cap' := by simpa using hva
          obtain ⟨t, ht⟩ : ∃ t, t = ts[i] := ⟨_, rfl⟩
          have hget : ts[i]? = some t := by rw [ht]; exact List.getElem?_eq_getElem hil
          obtain ⟨c3, c4, c5, c6, c7⟩ := Lx.chain_at _ _ _ i t HC.out hget
          obtain ⟨m, hm⟩ : ∃ m, m = t.text.length := ⟨_, rfl⟩
          obtain ⟨o, ho⟩ : ∃ o, o = t.off := ⟨_, rfl⟩
          obtain ⟨kd, hkd⟩ : ∃ kd, kd = t.kind := ⟨_, rfl⟩
          have htx : (⟨t.text.toArray⟩ : ByteArray) = s.extract o (o + m) := by
            have e5 := c5
            rw [← hm, ← ho] at e5
            rw [ext_eq, ← e5]
          rw [← hm, ← ho, ← hkd] at c4
          rw [← hm, ← ho, HLEN.out] at c7
          rw [← hkd] at c3
          have cc0 : wb.cell? ⟨g, i * 4, none⟩ = some (.int .i64 kd) := by
            have := hcell (i * 4 + 0) (by omega)
            rw [tks_get ts i t hget 0 (by omega)] at this
            rw [hkd]; exact this
          have cc1 : wb.cell? ⟨g, i * 4 + 1, none⟩ = some (.string (s.extract o (o + m))) := by
            rw [hcell (i * 4 + 1) (by omega), tks_get ts i t hget 1 (by omega), ← htx]; rfl
          have cc3 : wb.cell? ⟨g, i * 4 + 3, none⟩ = some (.int .i64 o) := by
            rw [hcell (i * 4 + 3) (by omega), tks_get ts i t hget 3 (by omega), ho]; rfl
          have dd0 := (hbw.cell (p := ⟨g, i * 4, none⟩) hgw).trans cc0
          have dd1 := (hbw.cell (p := ⟨g, i * 4 + 1, none⟩) hgw).trans cc1
          have dd3 := (hbw.cell (p := ⟨g, i * 4 + 3, none⟩) hgw).trans cc3
          have hmin : min (o + m) s.size = o + m := by omega
          have hkind := Lx.tok_kind _ _ _ _ c4 c3
          have hda : decide ((o : Int) < 0) = false := by simp
          have hdb : decide ((o : Int) + (m : Int) < (o : Int)) = false := by simp; omega
          have hdc : decide ((s.size : Int) < (o : Int) + (m : Int)) = false := by simp; omega
          clear hget htx ht hm ho hkd hcell hva c3 c4 c5 c6 cc0 cc1 cc3
          by_cases hend : o + m = s.size
          · have hde : ((o : Int) + (m : Int) == (s.size : Int)) = true := by simp; omega
            clear hend hkind
            go_wp2_with fail
            go_quiet (fail)
            go_wp2_with fail
            go_roundw
            case rel => exact ⟨i + 1, by go_num, by omega, hbw.trans (below_drewN _ _ _)⟩
            case measure => simp [RowKit.intOf]; omega
          · have hde : ((o : Int) + (m : Int) == (s.size : Int)) = false := by simp; omega
            have hlt : o + m < s.size := by omega
            have hnx := list_at s o m hlt
            rcases hkind with ⟨rfl, hk1⟩ | ⟨rfl, hk1⟩ | ⟨rfl, hk1, hk2⟩
            · obtain ⟨w1, w2, w3⟩ := Lx.word_parts _ (Lx.run_next Lx.wordB _ _ (by rw [← hk1]; exact hnx))
              have V1 := Lib.hid w1
              have V2 := Lib.hid w2
              have d95 : ((s[o + m].toNat : Int) == 95) = false := by simp; omega
              have dd0' : wr.cell? ⟨g, i * 4, none⟩ = some (.int .i64 1) := dd0
              clear w1 w2 w3 hnx hk1 hend dd0
              go_wp2_with fail
              go_quiet (fail)
              go_wp2_with fail
              refine (letter_any s[o + m] _).mono ?_
              rintro e w' ⟨rfl, rfl⟩
              rw [V1.out]
              go_wp2_with fail
              refine (digit_any s[o + m] _).mono ?_
              rintro e w' ⟨rfl, rfl⟩
              rw [V2.out]
              go_wp2_with fail
              obtain ⟨W0, hW0⟩ : ∃ W0 : World, W0 = wr.drewN nq := ⟨_, rfl⟩
              have hbW : Below wb.heap.size wb W0 := by rw [hW0]; exact hbw.trans (below_drewN _ _ _)
              have dW : W0.cell? ⟨g, i * 4, none⟩ = some (.int .i64 1) := by rw [hW0]; exact dd0'
              have hgW : g < W0.heap.size := Nat.lt_of_lt_of_le hgw hbW.size
              rw [← hW0]
              clear hW0
              refine (symbols_any W0).mono ?_
              rintro e w2 ⟨rfl, hc2, hz2, hb2⟩
              have dX : w2.cell? ⟨g, i * 4, none⟩ = some (.int .i64 1) := (hb2.cell (p := ⟨g, i * 4, none⟩) hgW).trans dW
              have hbX : Below wb.heap.size wb w2 := hbW.trans (hb2.mono hbW.size)
              clear hc2 hz2 dd0' dW
              go_wp2_with fail
              go_loopw [11] (fun vk wz => vk = .int .i64 0 ∧ wz = w2) (fun _ _ => 0)
              case atStart => exact ⟨rfl, rfl⟩
              case round =>
                obtain ⟨rfl, rfl⟩ := hrel
                go_wp2_with fail
                go_roundw
                case rel => exact ⟨i + 1, by go_num, by omega, hbX⟩
                case measure => simp [RowKit.intOf]; omega
            · have w2 := Lx.run_next Lx.digitB _ _ (by rw [← hk1]; exact hnx)
              have V2 := Lib.hid w2
              have dd0' : wr.cell? ⟨g, i * 4, none⟩ = some (.int .i64 2) := dd0
              clear w2 hnx hk1 hend dd0
              go_wp2_with fail
              go_quiet (fail)
              go_wp2_with fail
              refine (digit_any s[o + m] _).mono ?_
              rintro e w' ⟨rfl, rfl⟩
              rw [V2.out]
              go_wp2_with fail
              obtain ⟨W0, hW0⟩ : ∃ W0 : World, W0 = wr.drewN nq := ⟨_, rfl⟩
              have hbW : Below wb.heap.size wb W0 := by rw [hW0]; exact hbw.trans (below_drewN _ _ _)
              have dW : W0.cell? ⟨g, i * 4, none⟩ = some (.int .i64 2) := by rw [hW0]; exact dd0'
              have hgW : g < W0.heap.size := Nat.lt_of_lt_of_le hgw hbW.size
              rw [← hW0]
              clear hW0
              refine (symbols_any W0).mono ?_
              rintro e w2 ⟨rfl, hc2, hz2, hb2⟩
              have dX : w2.cell? ⟨g, i * 4, none⟩ = some (.int .i64 2) := (hb2.cell (p := ⟨g, i * 4, none⟩) hgW).trans dW
              have hbX : Below wb.heap.size wb w2 := hbW.trans (hb2.mono hbW.size)
              clear hc2 hz2 dd0' dW
              go_wp2_with fail
              go_loopw [11] (fun vk wz => vk = .int .i64 0 ∧ wz = w2) (fun _ _ => 0)
              case atStart => exact ⟨rfl, rfl⟩
              case round =>
                obtain ⟨rfl, rfl⟩ := hrel
                go_wp2_with fail
                go_roundw
                case rel => exact ⟨i + 1, by go_num, by omega, hbX⟩
                case measure => simp [RowKit.intOf]; omega
            · have dd0' : wr.cell? ⟨g, i * 4, none⟩ = some (.int .i64 3) := dd0
              have HK1 := Lib.hid hk1
              have HK2 := Lib.hid hk2
              clear dd0 hend hk1 hk2 hnx
              go_wp2_with fail
              go_quiet (fail)
              go_wp2_with fail
              obtain ⟨W0, hW0⟩ : ∃ W0 : World, W0 = wr.drewN nq := ⟨_, rfl⟩
              have hbW : Below wb.heap.size wb W0 := by rw [hW0]; exact hbw.trans (below_drewN _ _ _)
              have dW : W0.cell? ⟨g, i * 4, none⟩ = some (.int .i64 3) := by rw [hW0]; exact dd0'
              have eW : W0.cell? ⟨g, i * 4 + 1, none⟩ = some (.string (s.extract o (o + m))) := by rw [hW0]; exact dd1
              have hgW : g < W0.heap.size := Nat.lt_of_lt_of_le hgw hbW.size
              rw [← hW0]
              clear hW0
              refine (symbols_any W0).mono ?_
              rintro e w2 ⟨rfl, hc2, hz2, hb2⟩
              have dX : w2.cell? ⟨g, i * 4, none⟩ = some (.int .i64 3) := (hb2.cell (p := ⟨g, i * 4, none⟩) hgW).trans dW
              have eX : w2.cell? ⟨g, i * 4 + 1, none⟩ = some (.string (s.extract o (o + m))) := (hb2.cell (p := ⟨g, i * 4 + 1, none⟩) hgW).trans eW
              have hbX : Below wb.heap.size wb w2 := hbW.trans (hb2.mono hbW.size)
              have HC2 := Lib.hid hc2
              clear hc2 hz2 dd0' dW eW dd1
              go_wp2_with fail
              go_loopw [11] (fun vk wz => ∃ k : Nat, vk = .int .i64 k ∧ k ≤ 21 ∧ ∃ n, wz = w2.drewN n) (fun vk _ => 21 - (RowKit.intOf vk).toNat)
              case atStart => exact ⟨0, rfl, by omega, 0, rfl⟩
              case round =>
                obtain ⟨k, rfl, hk, n2, rfl⟩ := hrel
                by_cases hkl : k < 21
                · have hdk : decide ((k : Int) < 21) = true := by simp; omega
                  have cX := HC2.out k hkl
                  have hne := no_longer s o m k hkl HK1.out HK2.out hlt
                  go_wp2_with fail
                  go_quiet (fail)
                  go_wp2_with fail
                  go_roundw
                  case rel => exact ⟨k + 1, by go_num, by omega, _, rfl⟩
                  case measure => simp [RowKit.intOf]; omega
                · have hdk : decide ((k : Int) < 21) = false := by simp; omega
                  go_wp2_with fail
                  go_roundw
                  case rel => exact ⟨i + 1, by go_num, by omega, hbX.trans (below_drewN _ _ _)⟩
                  case measure => simp [RowKit.intOf]; omega
        · have hd2 : decide (i < ts.length) = false := by simpa using hil
          go_wp2_with fail
          go_ret
          exact ⟨rfl, hb.trans (hbw.mono hb.size)⟩
    · have he0 : ((er : Int) != 0) = true := by simp; omega
      have HR := Lib.hid hr
      clear hr hlen h0
      go_enter Tryd.func5, Tryd.ntmps5
      go_wp2_with fail
      refine (head_any w HL.out).mono ?_
      rintro e wa ⟨rfl, hba⟩
      go_wp2_with fail
      refine (lex_spec s wa hs (HL.out.below hba (Nat.le_refl _)) _ _ _ HR.out).mono ?_
      rintro e wb ⟨a, cap, rfl, hrow, hbb⟩
      have hb := hba.trans (hbb.mono hba.size)
      clear hrow
      go_wp2_with fail
      go_ret
      exact ⟨rfl, hb⟩
end Go.Proofs.YtlhfkdeegabbhaaDoor
