/-
  The walk of ParserFirstError.
-/
import Derived.Test.YtefihbhcdocgfaaGreatDoorZGP0
import Derived.Test.YtefihbhcdocgfaaGreatDoorZGH1
set_option linter.unusedVariables false
set_option linter.unusedSimpArgs false
set_option linter.unusedSectionVars false

namespace Go.Proofs.YtefihbhcdocgfaaGreatDoor
open Go.RowKit Go.Lib
open Lx (Tk)

theorem ext_take (s : ByteArray) (o : Nat) : (s.extract 0 o).data.toList = s.data.toList.take o := by simp [ByteArray.data_extract]
set_option maxRecDepth 100000 in
set_option maxHeartbeats 3200000 in
theorem pfirst_any (s : ByteArray) (q : Nat) (hq : q < 65536) (w : World) (hs : s.size ≤ 140737488355328) (hL : Libs w) (h0 : 0 < w.heap.size) :
    Calls Tryz.prog 5 #[.string s, .int .u16 q] w (PGood w) := by
  have HL := Lib.hid hL
  clear hL
  by_cases hbig : 1000 < s.size
  · go_enter Tryz.func5, Tryz.ntmps5
    go_wp2_with fail
    refine (phead_any w HL.out).mono ?_
    rintro e w1 ⟨rfl, hf1⟩
    go_wp2_with fail
    refine (tokens_long s 1000 _ hbig).mono ?_
    rintro e w' ⟨rfl, rfl⟩
    go_wp2_with fail
    go_ret
    exact ⟨rfl, hf1⟩
  obtain ⟨ts, er, at', hr⟩ : ∃ ts er at', Lx.lexL s.data.toList = (ts, er, at') := ⟨_, _, _, rfl⟩
  have hlen : s.data.toList.length = s.size := by simp
  have HR := Lib.hid hr
  have HSZ : s.size ≤ 1000 := by omega
  by_cases he0 : er = 0
  · subst he0
    by_cases hts : ts = []
    · subst hts
      clear hr hlen
      go_enter Tryz.func5, Tryz.ntmps5
      go_wp2_with fail
      refine (phead_any w HL.out).mono ?_
      rintro e w1 ⟨rfl, hf1⟩
      go_wp2_with fail
      refine (tokens_short s 1000 _ HSZ (by decide) (Nat.lt_of_lt_of_le h0 hf1.size)).mono ?_
      rintro e w2 ⟨a, cap, Tb, rfl, _, _, _, hf2⟩
      rw [HR.out]
      go_wp2_with fail
      go_ret
      exact ⟨rfl, hf1.trans hf2⟩
    have hfew := (lex_facts hr).2.2.1
    have hpos : 0 < ts.length := List.length_pos_iff.2 hts
    have hec := err_cases hr
    obtain ⟨pe, px, hpe⟩ : ∃ pe px, errP s.data.toList = (pe, px) := ⟨_, _, rfl⟩
    have hpe1 : (Px.parseP s.data.toList).2.1 = pe := congrArg Prod.fst hpe
    have hpe2 : (Px.parseP s.data.toList).2.2 = px := congrArg Prod.snd hpe
    have HPE := Lib.hid hpe
    rw [hpe1] at hec
    by_cases h4 : pe = 4
    · subst h4
      obtain ⟨u, t, r, hts2, hoff, hnot, hend, hat⟩ := first_at hr hpe1
      rw [hpe2] at hoff
      have hul : u.length < ts.length := by rw [hts2]; simp
      have htn : ts[u.length]? = some t := by rw [hts2]; simp
      have hplace : placeL ts (px : Int) = u.length := by
        unfold placeL
        rw [List.findIdx_eq hul]
        rw [List.getElem?_eq_getElem hul] at htn
        injection htn with htn
        refine ⟨by rw [htn, hoff]; simp, fun j hj => ?_⟩
        have hju : ts[j]'(by omega) = u[j] := by
          simp only [hts2]
          rw [List.getElem_append_left hj]
        rw [hju]
        have := hnot u[j] (List.getElem_mem hj)
        simp; omega
      have hge : (errP (s.extract 0 (px + t.text.length)).data.toList) = (4, px) := by
        rw [ext_take]; unfold errP; rw [← hoff, hat]
      rw [hlen] at hend
      have HPL := Lib.hid hplace
      have HTN := Lib.hid htn
      have HGE := Lib.hid hge
      have hend' : px + t.text.length ≤ s.size := by omega
      have hd1 : ((u.length : Int) == (ts.length : Int)) = false := by rw [beq_eq_false_iff_ne]; omega
      by_cases hu0 : u.length = 0
      · clear hr hlen hpe hpe1 hpe2 hec hnot hat hge hts2 hplace htn hoff
        go_enter Tryz.func5, Tryz.ntmps5
        go_wp2_with fail
        refine (phead_any w HL.out).mono ?_
        rintro e w1 ⟨rfl, hf1⟩
        have HF1 := Lib.hid hf1
        go_wp2_with fail
        refine (tokens_short s 1000 _ HSZ (by decide) (Nat.lt_of_lt_of_le h0 hf1.size)).mono ?_
        rintro e w2 ⟨a, cap, Tb, rfl, hT, hTb, hcap, hf2⟩
        rw [HR.out] at hT hcap
        rw [HR.out]
        have HT := Lib.hid hT
        have HF2 := Lib.hid (hf1.trans hf2)
        have hcap' : ts.length ≤ cap := hcap
        clear hT hf2 hf1 hcap
        go_wp2_with fail
        refine (parse_errs s _ hs (HL.out.fr HF2.out) _ HPE.out).mono ?_
        rintro e w3 ⟨s1, p2, n2, c2, p3, n3, c3, p4, n4, c4, p5, n5, c5, p6, n6, c6, rfl, hf3⟩
        have HF3 := Lib.hid ((HF2.out.trans hf3).alloc (.cells #[.string s1, .slice p2 n2 c2, .slice p3 n3 c3, .slice p4 n4 c4, .slice p5 n5 c5, .slice p6 n6 c6] 29))
        have HT3 := Lib.hid (HT.out.same (((hf3.alloc (.cells #[.string s1, .slice p2 n2 c2, .slice p3 n3 c3, .slice p4 n4 c4, .slice p5 n5 c5, .slice p6 n6 c6] 29)).block Tb hTb (by simp))))
        have hTb3 : Tb < (w3.alloc (.cells #[.string s1, .slice p2 n2 c2, .slice p3 n3 c3, .slice p4 n4 c4, .slice p5 n5 c5, .slice p6 n6 c6] 29)).heap.size := Nat.lt_of_lt_of_le hTb (hf3.alloc _).size
        clear hf3 HT hTb
        go_wp2_with fail
        refine (place_any ts px a cap Tb _ HT3.out hfew hcap' hTb3).mono ?_
        rintro e w' ⟨rfl, rfl⟩
        rw [HPL.out]
        have hd2 : ((u.length : Int) == 0) = true := by rw [hu0]; rfl
        go_wp2_with fail
        go_ret
        exact ⟨rfl, HF3.out⟩
      · have hnx : (Px.parseP s.data.toList).2.1 = 4 → ∃ t, ts[u.length]? = some t ∧ t.off = (Px.parseP s.data.toList).2.2 := fun _ => ⟨t, htn, by rw [hpe2]; exact hoff⟩
        obtain ⟨k, hkq⟩ : ∃ k, k = q % u.length := ⟨_, rfl⟩
        have hkn : k < u.length := by rw [hkq]; exact Nat.mod_lt _ (by omega)
        obtain ⟨tk, htk⟩ : ∃ t, ts[k]? = some t := ⟨ts[k]'(by omega), List.getElem?_eq_getElem (by omega)⟩
        obtain ⟨fb1, fb2, fb3⟩ := first_before hr u.length (by omega) hnx k hkn tk htk
        rw [hlen] at fb1
        have hmod : (Int.tmod (q : Int) (u.length : Nat)) = (k : Int) := by rw [hkq]; rfl
        have hmod2 : ((q : Int) % ((u.length : Nat) : Int)) = (k : Int) := by rw [hkq]; rfl
        have hbsz : (s.extract 0 tk.off).size = tk.off := by rw [ByteArray.size_extract]; omega
        obtain ⟨fe, fx, hfe⟩ : ∃ fe fx, errP (s.extract 0 tk.off).data.toList = (fe, fx) := ⟨_, _, rfl⟩
        have hfc : fe = 0 ∨ (fe = 5 ∧ fx = tk.off) := by
          rw [ext_take] at hfe
          have g1 : (Px.parseP (s.data.toList.take tk.off)).2.1 = fe := congrArg Prod.fst hfe
          have g2 : (Px.parseP (s.data.toList.take tk.off)).2.2 = fx := congrArg Prod.snd hfe
          rw [g1, g2] at fb3
          exact fb3
        have HFE := Lib.hid hfe
        have HTK := Lib.hid htk
        have HMOD := Lib.hid hmod
        have HMOD2 := Lib.hid hmod2
        have HBSZ := Lib.hid hbsz
        have hbs : (s.extract 0 tk.off).size ≤ 1000 := by omega
        clear hfe htk hmod hmod2 hkq fb3 hbsz
        have hd2 : ((u.length : Int) == 0) = false := by rw [beq_eq_false_iff_ne]; omega
        have hul0 : 0 < u.length := by omega
        have hqq : (q : Int) ≤ 65535 := by omega
        clear hr hlen hpe hpe1 hpe2 hec hnot hat hge hts2 hplace htn hoff hnx
        go_enter Tryz.func5, Tryz.ntmps5
        go_wp2_with fail
        refine (phead_any w HL.out).mono ?_
        rintro e w1 ⟨rfl, hf1⟩
        have HF1 := Lib.hid hf1
        go_wp2_with fail
        refine (tokens_short s 1000 _ HSZ (by decide) (Nat.lt_of_lt_of_le h0 hf1.size)).mono ?_
        rintro e w2 ⟨a, cap, Tb, rfl, hT, hTb, hcap, hf2⟩
        rw [HR.out] at hT hcap
        rw [HR.out]
        have HT := Lib.hid hT
        have HF2 := Lib.hid (hf1.trans hf2)
        have hcap' : ts.length ≤ cap := hcap
        clear hT hf2 hf1 hcap
        go_wp2_with fail
        refine (parse_errs s _ hs (HL.out.fr HF2.out) _ HPE.out).mono ?_
        rintro e w3 ⟨s1, p2, n2, c2, p3, n3, c3, p4, n4, c4, p5, n5, c5, p6, n6, c6, rfl, hf3⟩
        have HF3 := Lib.hid ((HF2.out.trans hf3).alloc (.cells #[.string s1, .slice p2 n2 c2, .slice p3 n3 c3, .slice p4 n4 c4, .slice p5 n5 c5, .slice p6 n6 c6] 29))
        have HT3 := Lib.hid (HT.out.same (((hf3.alloc (.cells #[.string s1, .slice p2 n2 c2, .slice p3 n3 c3, .slice p4 n4 c4, .slice p5 n5 c5, .slice p6 n6 c6] 29)).block Tb hTb (by simp))))
        have hTb3 : Tb < (w3.alloc (.cells #[.string s1, .slice p2 n2 c2, .slice p3 n3 c3, .slice p4 n4 c4, .slice p5 n5 c5, .slice p6 n6 c6] 29)).heap.size := Nat.lt_of_lt_of_le hTb (hf3.alloc _).size
        clear hf3 HT hTb
        go_wp2_with fail
        refine (place_any ts px a cap Tb _ HT3.out hfew hcap' hTb3).mono ?_
        rintro e w' ⟨rfl, rfl⟩
        rw [HPL.out]
        obtain ⟨oo, rfl, _, _, hk0, hk1, hk3⟩ := HT3.out.at HTK.out
        have hmod := HMOD.out
        have hmod2 := HMOD2.out
        go_wp2_with fail
        refine (parse_errs _ _ (by omega) (HL.out.fr HF3.out) _ HFE.out).mono ?_
        rintro e w4 ⟨r1, q2, m2, d2, q3, m3, d3, q4, m4, d4, q5, m5, d5, q6, m6, d6, rfl, hf4⟩
        have HF4 := Lib.hid ((HF3.out.trans hf4).alloc (.cells #[.string r1, .slice q2 m2 d2, .slice q3 m3 d3, .slice q4 m4 d4, .slice q5 m5 d5, .slice q6 m6 d6] 29))
        obtain ⟨o2, ho2, _, _, _, hn1, _⟩ := HT3.out.at HTN.out
        simp only [Option.some.injEq, Addr.mk.injEq, and_true, true_and] at ho2
        subst ho2
        have hn1' : (w4.alloc (.cells #[.string r1, .slice q2 m2 d2, .slice q3 m3 d3, .slice q4 m4 d4, .slice q5 m5 d5, .slice q6 m6 d6] 29)).cell? ⟨Tb, oo + u.length * 4 + 1, none⟩ = some (.string ⟨t.text.toArray⟩) := ((hf4.alloc (.cells #[.string r1, .slice q2 m2 d2, .slice q3 m3 d3, .slice q4 m4 d4, .slice q5 m5 d5, .slice q6 m6 d6] 29)).cell hTb3 (by simp) _).trans hn1
        have hbz := HBSZ.out
        clear hk0 hk1 hk3 hn1 hf4 hmod hmod2
        have hge2 : px + t.text.length ≤ 1000 := by omega
        rcases hfc with rfl | ⟨rfl, rfl⟩
        · go_wp2_with fail
          refine (parse_errs _ _ (by rw [ByteArray.size_extract]; omega) (HL.out.fr HF4.out) _ HGE.out).mono ?_
          rintro e w5 ⟨r1', q2', m2', d2', q3', m3', d3', q4', m4', d4', q5', m5', d5', q6', m6', d6', rfl, hf5⟩
          have HF5 := Lib.hid (HF4.out.trans hf5)
          clear hf5
          go_wp2_with fail
          go_ret
          exact ⟨rfl, HF5.out.alloc _⟩
        · go_wp2_with fail
          refine (parse_errs _ _ (by rw [ByteArray.size_extract]; omega) (HL.out.fr HF4.out) _ HGE.out).mono ?_
          rintro e w5 ⟨r1', q2', m2', d2', q3', m3', d3', q4', m4', d4', q5', m5', d5', q6', m6', d6', rfl, hf5⟩
          have HF5 := Lib.hid (HF4.out.trans hf5)
          clear hf5
          go_wp2_with fail
          go_ret
          exact ⟨rfl, HF5.out.alloc _⟩
    · have hec2 : pe = 0 ∨ pe = 5 := by omega
      have hnx : (Px.parseP s.data.toList).2.1 = 4 → ∃ t, ts[ts.length]? = some t ∧ t.off = (Px.parseP s.data.toList).2.2 := fun h => absurd (hpe1.symm.trans h) h4
      obtain ⟨k, hkq⟩ : ∃ k, k = q % ts.length := ⟨_, rfl⟩
      have hkn : k < ts.length := by rw [hkq]; exact Nat.mod_lt _ (by omega)
      obtain ⟨tk, htk⟩ : ∃ t, ts[k]? = some t := ⟨ts[k]'(by omega), List.getElem?_eq_getElem (by omega)⟩
      obtain ⟨fb1, fb2, fb3⟩ := first_before hr ts.length (by omega) hnx k hkn tk htk
      rw [hlen] at fb1
      have hmod : (Int.tmod (q : Int) (ts.length : Nat)) = (k : Int) := by rw [hkq]; rfl
      have hmod2 : ((q : Int) % ((ts.length : Nat) : Int)) = (k : Int) := by rw [hkq]; rfl
      have hbsz : (s.extract 0 tk.off).size = tk.off := by rw [ByteArray.size_extract]; omega
      obtain ⟨fe, fx, hfe⟩ : ∃ fe fx, errP (s.extract 0 tk.off).data.toList = (fe, fx) := ⟨_, _, rfl⟩
      have hfc : fe = 0 ∨ (fe = 5 ∧ fx = tk.off) := by
        rw [ext_take] at hfe
        have g1 : (Px.parseP (s.data.toList.take tk.off)).2.1 = fe := congrArg Prod.fst hfe
        have g2 : (Px.parseP (s.data.toList.take tk.off)).2.2 = fx := congrArg Prod.snd hfe
        rw [g1, g2] at fb3
        exact fb3
      have HFE := Lib.hid hfe
      have HTK := Lib.hid htk
      have HMOD := Lib.hid hmod
      have HMOD2 := Lib.hid hmod2
      have HBSZ := Lib.hid hbsz
      have hbs : (s.extract 0 tk.off).size ≤ 1000 := by omega
      clear hfe htk hmod hmod2 hkq fb3 hbsz
      have hd1 : ((ts.length : Int) == (ts.length : Int)) = true := by simp
      have hd2 : ((ts.length : Int) == 0) = false := by rw [beq_eq_false_iff_ne]; omega
      have hqq : (q : Int) ≤ 65535 := by omega
      clear hr hlen hpe hpe1 hpe2 hec hnx h4
      rcases hec2 with rfl | rfl
      · skip
        go_enter Tryz.func5, Tryz.ntmps5
        go_wp2_with fail
        refine (phead_any w HL.out).mono ?_
        rintro e w1 ⟨rfl, hf1⟩
        have HF1 := Lib.hid hf1
        go_wp2_with fail
        refine (tokens_short s 1000 _ HSZ (by decide) (Nat.lt_of_lt_of_le h0 hf1.size)).mono ?_
        rintro e w2 ⟨a, cap, Tb, rfl, hT, hTb, hcap, hf2⟩
        rw [HR.out] at hT hcap
        rw [HR.out]
        have HT := Lib.hid hT
        have HF2 := Lib.hid (hf1.trans hf2)
        have hcap' : ts.length ≤ cap := hcap
        clear hT hf2 hf1 hcap
        go_wp2_with fail
        refine (parse_errs s _ hs (HL.out.fr HF2.out) _ HPE.out).mono ?_
        rintro e w3 ⟨s1, p2, n2, c2, p3, n3, c3, p4, n4, c4, p5, n5, c5, p6, n6, c6, rfl, hf3⟩
        have HF3 := Lib.hid ((HF2.out.trans hf3).alloc (.cells #[.string s1, .slice p2 n2 c2, .slice p3 n3 c3, .slice p4 n4 c4, .slice p5 n5 c5, .slice p6 n6 c6] 29))
        have HT3 := Lib.hid (HT.out.same (((hf3.alloc (.cells #[.string s1, .slice p2 n2 c2, .slice p3 n3 c3, .slice p4 n4 c4, .slice p5 n5 c5, .slice p6 n6 c6] 29)).block Tb hTb (by simp))))
        have hTb3 : Tb < (w3.alloc (.cells #[.string s1, .slice p2 n2 c2, .slice p3 n3 c3, .slice p4 n4 c4, .slice p5 n5 c5, .slice p6 n6 c6] 29)).heap.size := Nat.lt_of_lt_of_le hTb (hf3.alloc _).size
        clear hf3 HT hTb
        obtain ⟨oo, rfl, _, _, hk0, hk1, hk3⟩ := HT3.out.at HTK.out
        have hmod := HMOD.out
        have hmod2 := HMOD2.out
        go_wp2_with fail
        refine (parse_errs _ _ (by omega) (HL.out.fr HF3.out) _ HFE.out).mono ?_
        rintro e w4 ⟨r1, q2, m2, d2, q3, m3, d3, q4, m4, d4, q5, m5, d5, q6, m6, d6, rfl, hf4⟩
        have HF4 := Lib.hid ((HF3.out.trans hf4).alloc (.cells #[.string r1, .slice q2 m2 d2, .slice q3 m3 d3, .slice q4 m4 d4, .slice q5 m5 d5, .slice q6 m6 d6] 29))
        have hbz := HBSZ.out
        clear hk0 hk1 hk3 hf4 hmod hmod2
        rcases hfc with rfl | ⟨rfl, rfl⟩
        · go_wp2_with fail
          go_ret
          exact ⟨rfl, HF4.out⟩
        · go_wp2_with fail
          go_ret
          exact ⟨rfl, HF4.out⟩
      · skip
        go_enter Tryz.func5, Tryz.ntmps5
        go_wp2_with fail
        refine (phead_any w HL.out).mono ?_
        rintro e w1 ⟨rfl, hf1⟩
        have HF1 := Lib.hid hf1
        go_wp2_with fail
        refine (tokens_short s 1000 _ HSZ (by decide) (Nat.lt_of_lt_of_le h0 hf1.size)).mono ?_
        rintro e w2 ⟨a, cap, Tb, rfl, hT, hTb, hcap, hf2⟩
        rw [HR.out] at hT hcap
        rw [HR.out]
        have HT := Lib.hid hT
        have HF2 := Lib.hid (hf1.trans hf2)
        have hcap' : ts.length ≤ cap := hcap
        clear hT hf2 hf1 hcap
        go_wp2_with fail
        refine (parse_errs s _ hs (HL.out.fr HF2.out) _ HPE.out).mono ?_
        rintro e w3 ⟨s1, p2, n2, c2, p3, n3, c3, p4, n4, c4, p5, n5, c5, p6, n6, c6, rfl, hf3⟩
        have HF3 := Lib.hid ((HF2.out.trans hf3).alloc (.cells #[.string s1, .slice p2 n2 c2, .slice p3 n3 c3, .slice p4 n4 c4, .slice p5 n5 c5, .slice p6 n6 c6] 29))
        have HT3 := Lib.hid (HT.out.same (((hf3.alloc (.cells #[.string s1, .slice p2 n2 c2, .slice p3 n3 c3, .slice p4 n4 c4, .slice p5 n5 c5, .slice p6 n6 c6] 29)).block Tb hTb (by simp))))
        have hTb3 : Tb < (w3.alloc (.cells #[.string s1, .slice p2 n2 c2, .slice p3 n3 c3, .slice p4 n4 c4, .slice p5 n5 c5, .slice p6 n6 c6] 29)).heap.size := Nat.lt_of_lt_of_le hTb (hf3.alloc _).size
        clear hf3 HT hTb
        obtain ⟨oo, rfl, _, _, hk0, hk1, hk3⟩ := HT3.out.at HTK.out
        have hmod := HMOD.out
        have hmod2 := HMOD2.out
        go_wp2_with fail
        refine (parse_errs _ _ (by omega) (HL.out.fr HF3.out) _ HFE.out).mono ?_
        rintro e w4 ⟨r1, q2, m2, d2, q3, m3, d3, q4, m4, d4, q5, m5, d5, q6, m6, d6, rfl, hf4⟩
        have HF4 := Lib.hid ((HF3.out.trans hf4).alloc (.cells #[.string r1, .slice q2 m2 d2, .slice q3 m3 d3, .slice q4 m4 d4, .slice q5 m5 d5, .slice q6 m6 d6] 29))
        have hbz := HBSZ.out
        clear hk0 hk1 hk3 hf4 hmod hmod2
        rcases hfc with rfl | ⟨rfl, rfl⟩
        · go_wp2_with fail
          go_ret
          exact ⟨rfl, HF4.out⟩
        · go_wp2_with fail
          go_ret
          exact ⟨rfl, HF4.out⟩
  · have hd : ((er : Int) == 0) = false := by rw [beq_eq_false_iff_ne]; omega
    have hdn : (er == 0) = false := by rw [beq_eq_false_iff_ne]; omega
    clear hr hlen
    go_enter Tryz.func5, Tryz.ntmps5
    go_wp2_with fail
    refine (phead_any w HL.out).mono ?_
    rintro e w1 ⟨rfl, hf1⟩
    go_wp2_with fail
    refine (tokens_short s 1000 _ HSZ (by decide) (Nat.lt_of_lt_of_le h0 hf1.size)).mono ?_
    rintro e w2 ⟨a, cap, Tb, rfl, _, _, _, hf2⟩
    rw [HR.out]
    go_wp2_with fail
    go_ret
    exact ⟨rfl, hf1.trans hf2⟩
end Go.Proofs.YtefihbhcdocgfaaGreatDoor
