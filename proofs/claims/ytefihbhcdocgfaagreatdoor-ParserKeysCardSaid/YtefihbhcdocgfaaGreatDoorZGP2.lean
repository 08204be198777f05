/-
  The walk of ParserKeys.
-/
import Derived.Test.YtefihbhcdocgfaaGreatDoorZGP1
import Derived.Test.YtefihbhcdocgfaaGreatDoorZGN4
import Derived.Deep.RegionLaw
set_option linter.unusedVariables false
set_option linter.unusedSimpArgs false
set_option linter.unusedSectionVars false

namespace Go.Proofs.YtefihbhcdocgfaaGreatDoor
open Go.RowKit Go.Lib
open Lx (Tk)

theorem keysfn_any (w : World) : Calls Tryz.prog 16 #[] w fun e w' => e = .returned (.slice (some ⟨w.heap.size, 0, none⟩) 32 32) ∧ (∀ j, j < 32 → w'.cell? ⟨w.heap.size, j, none⟩ = some (.string (keyW j))) ∧ Fr [] w w' ∧ w.heap.size < w'.heap.size := by
  go_enter Tryz.func16, Tryz.ntmps16
  go_wp2
  go_ret
  refine ⟨rfl, fun j hj => ?_, (Fr.refl _ _).alloc _, by simp⟩
  rw [World.cell?_alloc_new]
  have : ∀ j, j < 32 → (Px.keys.map fun l => Value.string ⟨l.toArray⟩).toArray[j]? = some (Value.string (keyW j)) := by
    intro j hj
    have hl : j < Px.keys.length := hj
    simp [keyW, List.getD_eq_getElem?_getD, List.getElem?_eq_getElem hl]
  exact this j hj
theorem keyW_mem (j : Nat) (h : j < 32) : (keyW j).data.toList ∈ Px.keys := by
  have : ∀ j, j < 32 → (keyW j).data.toList ∈ Px.keys := by decide +kernel
  exact this j h

set_option maxRecDepth 100000 in
set_option maxHeartbeats 3200000 in
theorem pkeys_any (s : ByteArray) (q : Nat) (hq : q < 256) (w : World) (hs : s.size ≤ 140737488355328) (hL : Libs w) (h0 : 0 < w.heap.size) :
    Calls Tryz.prog 7 #[.string s, .int .u8 q] w (PGood w) := by
  have HL := Lib.hid hL
  clear hL
  obtain ⟨pe, px, hpe⟩ : ∃ pe px, errP s.data.toList = (pe, px) := ⟨_, _, rfl⟩
  have hpe1 : (Px.parseP s.data.toList).2.1 = pe := congrArg Prod.fst hpe
  have HPE := Lib.hid hpe
  by_cases hbig : 1000 < s.size
  · clear hpe hpe1
    go_enter Tryz.func7, Tryz.ntmps7
    go_wp2_with fail
    refine (phead_any w HL.out).mono ?_
    rintro e w1 ⟨rfl, hf1⟩
    go_wp2_with fail
    refine (tokens_long s 1000 _ hbig).mono ?_
    rintro e w' ⟨rfl, rfl⟩
    go_wp2_with fail
    refine (parse_errs s _ hs (HL.out.fr hf1) _ HPE.out).mono ?_
    rintro e w3 ⟨s1, p2, n2, c2, p3, n3, c3, p4, n4, c4, p5, n5, c5, p6, n6, c6, rfl, hf3⟩
    have HF3 := Lib.hid (hf1.trans hf3)
    clear hf1 hf3
    go_wp2_with fail
    go_ret
    exact ⟨rfl, HF3.out.alloc _⟩
  obtain ⟨ts, er, at', hr⟩ : ∃ ts er at', Lx.lexL s.data.toList = (ts, er, at') := ⟨_, _, _, rfl⟩
  have hlen : s.data.toList.length = s.size := by simp
  have HR := Lib.hid hr
  have HSZ : s.size ≤ 1000 := by omega
  by_cases he0 : er = 0
  · subst he0
    have hfew := (lex_facts hr).2.2.1
    by_cases hp0 : pe = 0
    · subst hp0
      obtain ⟨t0, t1, r, hts, hb, hk, hsemi⟩ := keys_plain hr (by omega) hpe1
      rw [hlen] at hb hsemi
      have ht1 : ts[1]? = some t1 := by rw [hts]; rfl
      by_cases hl3 : ts.length < 3
      · have hd3 : decide ((ts.length : Int) < 3) = true := by simp; omega
        have hd3' : decide (ts.length < 3) = true := by simp; omega
        clear hr hlen hpe hpe1 hts hk hsemi ht1
        go_enter Tryz.func7, Tryz.ntmps7
        go_wp2_with fail
        refine (phead_any w HL.out).mono ?_
        rintro e w1 ⟨rfl, hf1⟩
        go_wp2_with fail
        refine (tokens_short s 1000 _ HSZ (by decide) (Nat.lt_of_lt_of_le h0 hf1.size)).mono ?_
        rintro e w2 ⟨a, cap, Tb, rfl, hT, hTb, hcap, hf2⟩
        rw [HR.out]
        have HF2 := Lib.hid (hf1.trans hf2)
        clear hf1 hf2 hT hTb hcap
        go_wp2_with fail
        refine (parse_errs s _ hs (HL.out.fr HF2.out) _ HPE.out).mono ?_
        rintro e w3 ⟨s1, p2, n2, c2, p3, n3, c3, p4, n4, c4, p5, n5, c5, p6, n6, c6, rfl, hf3⟩
        have HF3 := Lib.hid (HF2.out.trans hf3)
        clear hf3
        go_wp2_with fail
        go_ret
        exact ⟨rfl, HF3.out.alloc _⟩
      · have hd3 : decide ((ts.length : Int) < 3) = false := by simp; omega
        have hd3' : decide (ts.length < 3) = false := by simp; omega
        obtain ⟨k, hkq⟩ : ∃ k, k = q % 32 := ⟨_, rfl⟩
        have hk32 : k < 32 := by omega
        have hmod : (Int.tmod (q : Int) 32) = (k : Int) := by rw [hkq]; rfl
        have hmod2 : ((q : Int) % 32) = (k : Int) := by rw [hkq]; rfl
        have hkk := hk _ (keyW_mem k hk32)
        have hk8 : (keyW k).size ≤ 8 := by
          have : ∀ j, j < 32 → (keyW j).size ≤ 8 := by decide +kernel
          exact this k hk32
        have e1 : ((s.extract 0 t1.off ++ keyW k) ++ s.extract (t1.off + t1.text.length) s.size).data.toList = s.data.toList.take t1.off ++ (keyW k).data.toList ++ s.data.toList.drop (t1.off + t1.text.length) := by
          simp [ByteArray.data_extract]
          exact List.take_of_length_le (by rw [List.length_drop]; omega)
        have e2 : (s ++ (⟨#[10, 59]⟩ : ByteArray)).data.toList = s.data.toList ++ [10, 59] := by simp
        have HK : Hid (errP ((s.extract 0 t1.off ++ keyW k) ++ s.extract (t1.off + t1.text.length) s.size).data.toList = (4, t1.off)) := Lib.hid (by rw [e1]; exact hkk)
        have HS : Hid (errP (s ++ (⟨#[10, 59]⟩ : ByteArray)).data.toList = (4, s.size + 1)) := Lib.hid (by rw [e2]; exact hsemi)
        have hsz2 : (s ++ (⟨#[10, 59]⟩ : ByteArray)).size ≤ 140737488355328 := by
          rw [ByteArray.size_append]
          have : (⟨#[10, 59]⟩ : ByteArray).size = 2 := rfl
          omega
        have HMOD := Lib.hid hmod
        have HMOD2 := Lib.hid hmod2
        have HT1 := Lib.hid ht1
        have hlz : 1 < ts.length := by omega
        clear hr hlen hpe hpe1 hts hk hsemi ht1 e1 e2 hkk hmod hmod2 hkq
        go_enter Tryz.func7, Tryz.ntmps7
        go_wp2_with fail
        refine (phead_any w HL.out).mono ?_
        rintro e w1 ⟨rfl, hf1⟩
        go_wp2_with fail
        refine (tokens_short s 1000 _ HSZ (by decide) (Nat.lt_of_lt_of_le h0 hf1.size)).mono ?_
        rintro e w2 ⟨a, cap, Tb, rfl, hT, hTb, hcap, hf2⟩
        rw [HR.out] at hT hcap
        rw [HR.out]
        have HT := Lib.hid hT
        have HF2 := Lib.hid (hf1.trans hf2)
        have hcap' : ts.length ≤ cap := hcap
        clear hT hf2 hf1 hcap
        go_wp2_with fail
        refine (parse_errs s _ hs (HL.out.fr HF2.out) _ HPE.out).mono ?_
        rintro e w3 ⟨s1, p2, n2, c2, p3, n3, c3, p4, n4, c4, p5, n5, c5, p6, n6, c6, rfl, hf3⟩
        have HF3 := Lib.hid ((HF2.out.trans hf3).alloc (.cells #[.string s1, .slice p2 n2 c2, .slice p3 n3 c3, .slice p4 n4 c4, .slice p5 n5 c5, .slice p6 n6 c6] 29))
        have HT3 := Lib.hid (HT.out.same (((hf3.alloc (.cells #[.string s1, .slice p2 n2 c2, .slice p3 n3 c3, .slice p4 n4 c4, .slice p5 n5 c5, .slice p6 n6 c6] 29)).block Tb hTb (by simp))))
        have hTb3 : Tb < (w3.alloc (.cells #[.string s1, .slice p2 n2 c2, .slice p3 n3 c3, .slice p4 n4 c4, .slice p5 n5 c5, .slice p6 n6 c6] 29)).heap.size := Nat.lt_of_lt_of_le hTb (hf3.alloc _).size
        clear hf3 HT hTb
        go_wp2_with fail
        refine (keysfn_any _).mono ?_
        rintro e w4 ⟨rfl, hkc, hf4, hk4⟩
        have HF4 := Lib.hid (HF3.out.trans hf4)
        obtain ⟨oo, rfl, _, _, hc0, hc1, hc3⟩ := (HT3.out.same (hf4.block Tb hTb3 (by simp))).at HT1.out
        have hTb4 : Tb < w4.heap.size := Nat.lt_of_lt_of_le hTb3 hf4.size
        have hkc' : w4.cell? ⟨w3.heap.size + 1, k, none⟩ = some (.string (keyW k)) := by simpa using hkc k hk32
        have hk4' : w3.heap.size + 1 < w4.heap.size := by simpa using hk4
        have hmod := HMOD.out
        have hmod2 := HMOD2.out
        clear hkc hf4 hk4
        go_wp2_with fail
        clear hkc' hk4' hmod hmod2
        have hsum : (IntKind.i64.wrap ((t1.off : Int) + (t1.text.length : Int))) = (t1.off : Int) + (t1.text.length : Int) := by rw [IntWalk.i64_in _ (by omega)]
        have hsz : ((s.extract 0 t1.off ++ keyW k) ++ s.extract (t1.off + t1.text.length) s.size).size ≤ 140737488355328 := by
          rw [ByteArray.size_append, ByteArray.size_append, ByteArray.size_extract, ByteArray.size_extract]; omega
        have hs1 : t1.off ≤ s.size := by omega
        have HW4 : Hid (w.heap.size ≤ w4.heap.size) := Lib.hid HF4.out.size
        have hp1 : (0 : Int) ≤ (t1.off : Int) + (t1.text.length : Int) := by omega
        have hp2 : (t1.off : Int) + (t1.text.length : Int) ≤ (s.size : Int) := by omega
        have htn : ((t1.off : Int) + (t1.text.length : Int)).toNat = t1.off + t1.text.length := by omega
        have hg2 : ¬ 9223372036854775807 < t1.off + (keyW k).size + (s.size - (t1.off + t1.text.length)) := by omega
        have hlzI : (1 : Int) < (ts.length : Int) := by omega
        have hc1' : w4.cell? ⟨Tb, oo + 4 + 1, none⟩ = some (.string ⟨t1.text.toArray⟩) := hc1
        have hg1 : ¬ 9223372036854775807 < t1.off + (keyW k).size := by omega
        go_region_law (go_simp; go_at_call 10; refine (parse_errs _ _ hsz (HL.out.fr (by repeat' (first | with_reducible exact HF4.out | with_reducible refine Fr.alloc ?_ _ | with_reducible refine Fr.drew ?_ | with_reducible refine Fr.drewN ?_ _))) _ HK.out).mono ?_; rintro e w5 ⟨r1, q2, m2, d2, q3, m3, d3, q4, m4, d4, q5, m5, d5, q6, m6, d6, rfl, hf5⟩; have HF5 : Hid (Fr [] w w5) := Lib.hid (Fr.trans (by repeat' (first | with_reducible exact HF4.out | with_reducible refine Fr.alloc ?_ _ | with_reducible refine Fr.drew ?_ | with_reducible refine Fr.drewN ?_ _)) hf5); first | (have hB5 : Blk w5 w4.heap.size 29 #[.string ⟨#[]⟩, .slice none 0 0, .slice none 0 0, .slice none 0 0, .slice none 0 0, .slice none 0 0] := (Blk.keep (by first | exact Blk.new _ _ _ | exact Blk.drew (Blk.new _ _ _)) hf5 (by simp)); have z0 : w5.cell? ⟨w4.heap.size, 0, none⟩ = some (.string ⟨#[]⟩) := hB5.cell 0; have y0 : w5.frozen? ⟨w4.heap.size, 0, none⟩ = false := hB5.frozen 0; have z1 : w5.cell? ⟨w4.heap.size, 1, none⟩ = some (.slice none 0 0) := hB5.cell 1; have y1 : w5.frozen? ⟨w4.heap.size, 1, none⟩ = false := hB5.frozen 1; have z2 : w5.cell? ⟨w4.heap.size, 2, none⟩ = some (.slice none 0 0) := hB5.cell 2; have y2 : w5.frozen? ⟨w4.heap.size, 2, none⟩ = false := hB5.frozen 2; have z3 : w5.cell? ⟨w4.heap.size, 3, none⟩ = some (.slice none 0 0) := hB5.cell 3; have y3 : w5.frozen? ⟨w4.heap.size, 3, none⟩ = false := hB5.frozen 3; have z4 : w5.cell? ⟨w4.heap.size, 4, none⟩ = some (.slice none 0 0) := hB5.cell 4; have y4 : w5.frozen? ⟨w4.heap.size, 4, none⟩ = false := hB5.frozen 4; have z5 : w5.cell? ⟨w4.heap.size, 5, none⟩ = some (.slice none 0 0) := hB5.cell 5; have y5 : w5.frozen? ⟨w4.heap.size, 5, none⟩ = false := hB5.frozen 5; have hl5 := hB5.lt; clear hB5 hf5) | clear hf5)
        all_goals
          clear hp1 hp2 htn hg1 hg2 hlzI hc0 hc1 hc1' hc3 hsum
          have hg3 : ¬ 9223372036854775807 < s.size + 2 := by omega
          go_wp2_with fail
          refine (parse_errs (s ++ (⟨#[10, 59]⟩ : ByteArray)) _ hsz2 (HL.out.fr (by repeat' (first | with_reducible exact HF5.out | with_reducible exact HW4.out | with_reducible refine Fr.alloc ?_ _ | with_reducible refine Fr.drew ?_ | with_reducible refine Fr.setCell ?_ (Or.inr ?_) _))) _ HS.out).mono ?_
          rintro e w6 ⟨r1', q2', m2', d2', q3', m3', d3', q4', m4', d4', q5', m5', d5', q6', m6', d6', rfl, hf6⟩
          have HF6 : Hid (Fr [] w w6) := Lib.hid (Fr.trans (by repeat' (first | with_reducible exact HF5.out | with_reducible exact HW4.out | with_reducible refine Fr.alloc ?_ _ | with_reducible refine Fr.drew ?_ | with_reducible refine Fr.setCell ?_ (Or.inr ?_) _)) hf6)
          clear hf6
          go_wp2_with fail
          go_ret
          exact ⟨rfl, HF6.out.alloc _⟩
    · have hpz : ((pe : Int) != 0) = true := by rw [bne_iff_ne]; omega
      clear hr hlen hpe hpe1
      go_enter Tryz.func7, Tryz.ntmps7
      go_wp2_with fail
      refine (phead_any w HL.out).mono ?_
      rintro e w1 ⟨rfl, hf1⟩
      go_wp2_with fail
      refine (tokens_short s 1000 _ HSZ (by decide) (Nat.lt_of_lt_of_le h0 hf1.size)).mono ?_
      rintro e w2 ⟨a, cap, Tb, rfl, hT, hTb, hcap, hf2⟩
      rw [HR.out]
      have HF2 := Lib.hid (hf1.trans hf2)
      clear hf1 hf2 hT hTb hcap
      go_wp2_with fail
      refine (parse_errs s _ hs (HL.out.fr HF2.out) _ HPE.out).mono ?_
      rintro e w3 ⟨s1, p2, n2, c2, p3, n3, c3, p4, n4, c4, p5, n5, c5, p6, n6, c6, rfl, hf3⟩
      have HF3 := Lib.hid (HF2.out.trans hf3)
      clear hf3
      go_wp2_with fail
      go_ret
      exact ⟨rfl, HF3.out.alloc _⟩
  · have hd : ((er : Int) == 0) = false := by rw [beq_eq_false_iff_ne]; omega
    have hdn : (er == 0) = false := by rw [beq_eq_false_iff_ne]; omega
    clear hr hlen hpe hpe1
    go_enter Tryz.func7, Tryz.ntmps7
    go_wp2_with fail
    refine (phead_any w HL.out).mono ?_
    rintro e w1 ⟨rfl, hf1⟩
    go_wp2_with fail
    refine (tokens_short s 1000 _ HSZ (by decide) (Nat.lt_of_lt_of_le h0 hf1.size)).mono ?_
    rintro e w2 ⟨a, cap, Tb, rfl, hT, hTb, hcap, hf2⟩
    rw [HR.out]
    have HF2 := Lib.hid (hf1.trans hf2)
    clear hf1 hf2 hT hTb hcap
    go_wp2_with fail
    refine (parse_errs s _ hs (HL.out.fr HF2.out) _ HPE.out).mono ?_
    rintro e w3 ⟨s1, p2, n2, c2, p3, n3, c3, p4, n4, c4, p5, n5, c5, p6, n6, c6, rfl, hf3⟩
    have HF3 := Lib.hid (HF2.out.trans hf3)
    clear hf3
    go_wp2_with fail
    go_ret
    exact ⟨rfl, HF3.out.alloc _⟩
end Go.Proofs.YtefihbhcdocgfaaGreatDoor
