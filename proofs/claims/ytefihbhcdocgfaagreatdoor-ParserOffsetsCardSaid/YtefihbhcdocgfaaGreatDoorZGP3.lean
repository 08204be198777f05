/-
  The walk of ParserOffsets.
-/
import Derived.Test.YtefihbhcdocgfaaGreatDoorZGP0
import Derived.Test.YtefihbhcdocgfaaGreatDoorZGH1
import Derived.Test.YtefihbhcdocgfaaGreatDoorZR
import Derived.BigQuiet
set_option linter.unusedVariables false
set_option linter.unusedSimpArgs false
set_option linter.unusedSectionVars false

namespace Go.Proofs.YtefihbhcdocgfaaGreatDoor
open Go.RowKit Go.Lib
open Lx (Tk)
open Px (Txt TyE VarD DataD TraitD BoundD ImplD ArgD ExprD StmtD ArmD FuncD ModD)

theorem uses_shape {w : World} {N : Nat → Prop} {M : ModD} {x v d t i f : Value} (h : Rep w N (modQ M) [x, v, d, t, i, f]) : ∃ p n c, v = .slice p n c := by
  rw [modQ, rep_str] at h
  obtain ⟨c1, e, h⟩ := h
  rw [strsQ, rep_sl] at h
  obtain ⟨u, c2, rfl, hu, h⟩ := h
  simp only [List.cons.injEq] at e
  obtain ⟨p, c, hs⟩ := hu.shape
  exact ⟨p, _, c, by rw [e.2.1, hs]⟩

set_option maxRecDepth 100000 in
set_option maxHeartbeats 3200000 in
theorem poffs_any (s : ByteArray) (w : World) (hs : s.size ≤ 140737488355328) (hL : Libs w) (h0 : 0 < w.heap.size) :
    Calls Tryz.prog 8 #[.string s] w (PGood w) := by
  have HL := Lib.hid hL
  clear hL
  obtain ⟨pe, px, hpe⟩ : ∃ pe px, errP s.data.toList = (pe, px) := ⟨_, _, rfl⟩
  have hpe1 : (Px.parseP s.data.toList).2.1 = pe := congrArg Prod.fst hpe
  have HPE := Lib.hid hpe
  by_cases hbig : 1000 < s.size
  · clear hpe hpe1
    go_enter Tryz.func8, Tryz.ntmps8
    go_wp2_with fail
    refine (phead_any w HL.out).mono ?_
    rintro e w1 ⟨rfl, hf1⟩
    go_wp2_with fail
    refine (tokens_long s 1000 _ hbig).mono ?_
    rintro e w' ⟨rfl, rfl⟩
    go_wp2_with fail
    refine (parse_errs s _ hs (HL.out.fr hf1) _ HPE.out).mono ?_
    rintro e w3 ⟨s1, p2, n2, c2, p3, n3, c3, p4, n4, c4, p5, n5, c5, p6, n6, c6, rfl, hf3⟩
    have HF3 := Lib.hid (hf1.trans hf3)
    clear hf1 hf3
    go_wp2_with fail
    go_ret
    exact ⟨rfl, HF3.out.alloc _⟩
  obtain ⟨ts, er, at', hr⟩ : ∃ ts er at', Lx.lexL s.data.toList = (ts, er, at') := ⟨_, _, _, rfl⟩
  have HR := Lib.hid hr
  have HSZ : s.size ≤ 1000 := by omega
  by_cases he0 : er = 0
  · subst he0
    have hfew := (lex_facts hr).2.2.1
    by_cases hp0 : pe = 0
    · subst hp0
      have hpp := parseP_ok hr
      rw [hpp] at hpe1
      cases hm : Px.module s.data.toList.length 6001 ts with
      | bad r =>
        rw [hm] at hpe1
        cases r <;> cases hpe1
      | ok M r =>
        rw [hm] at hpp
        have HP := Lib.hid hpp
        have HG := Lib.hid (offsets_good hr hm)
        have HS := Lib.hid (lex_sorted hr)
        clear hr hpe hpe1 hm hpp
        go_enter Tryz.func8, Tryz.ntmps8
        go_wp2_with fail
        refine (phead_any w HL.out).mono ?_
        rintro e w1 ⟨rfl, hf1⟩
        go_wp2_with fail
        refine (tokens_short s 1000 _ HSZ (by decide) (Nat.lt_of_lt_of_le h0 hf1.size)).mono ?_
        rintro e w2 ⟨a, cap, Tb, rfl, hT, hTb, hcap, hf2⟩
        rw [HR.out] at hT hcap
        rw [HR.out]
        have HT := Lib.hid hT
        have HF2 := Lib.hid (hf1.trans hf2)
        have hcap' : ts.length ≤ cap := hcap
        clear hT hf2 hf1 hcap
        go_wp2_with fail
        refine (parse_spec s _ hs (HL.out.fr HF2.out) _ HP.out).mono ?_
        rintro e w3 ⟨hf3, cs, rfl, hrep⟩
        obtain ⟨xn, vu, vd, vt, vi, vf, rfl, hd0, ht0, hi0, hff0⟩ := mod_cells hrep
        obtain ⟨pd, cd, rfl⟩ := hd0.shape
        obtain ⟨pt, ct, rfl⟩ := ht0.shape
        obtain ⟨pi, ci, rfl⟩ := hi0.shape
        obtain ⟨pf, cf, rfl⟩ := hff0.shape
        obtain ⟨pu, nu, cu, rfl⟩ := uses_shape hrep
        have HD := Lib.hid hd0
        have HTR := Lib.hid ht0
        have HI := Lib.hid hi0
        have HFN := Lib.hid hff0
        have HF3 := Lib.hid (HF2.out.trans hf3)
        have HT3 := Lib.hid (HT.out.same (hf3.block Tb hTb (by simp)))
        have hTb3 : Tb < w3.heap.size := Nat.lt_of_lt_of_le hTb hf3.size
        clear hf3 HT hTb hrep hd0 ht0 hi0 hff0
        go_wp2_with fail
        have HF0 : Hid (Fr [] w3 (w3.alloc (.cells #[.string xn, .slice pu nu cu, .slice pd M.datas.length cd, .slice pt M.traits.length ct, .slice pi M.impls.length ci, .slice pf M.funcs.length cf] 29))) := Lib.hid ((Fr.refl _ _).alloc _)
        have HB0 : Hid (Blk (w3.alloc (.cells #[.string xn, .slice pu nu cu, .slice pd M.datas.length cd, .slice pt M.traits.length ct, .slice pi M.impls.length ci, .slice pf M.funcs.length cf] 29)) w3.heap.size 29 #[.string xn, .slice pu nu cu, .slice pd M.datas.length cd, .slice pt M.traits.length ct, .slice pi M.impls.length ci, .slice pf M.funcs.length cf]) := Lib.hid (Blk.new _ _ _)

        go_loopw [9] (fun v wr => ∃ i : Nat, v = .int .i64 i ∧ i ≤ M.datas.length ∧ Fr [] w3 wr ∧ Blk wr w3.heap.size 29 #[.string xn, .slice pu nu cu, .slice pd M.datas.length cd, .slice pt M.traits.length ct, .slice pi M.impls.length ci, .slice pf M.funcs.length cf]) (fun v _ => M.datas.length - (RowKit.intOf v).toNat)
        case atStart => exact ⟨0, rfl, by omega, HF0.out, HB0.out⟩
        case round =>
          clear HF0 HB0
          obtain ⟨i, rfl, hi, hF, hB⟩ := hrel
          have m2 := (hB.cell 2 : wr.cell? ⟨w3.heap.size, 2, none⟩ = some (.slice pd M.datas.length cd))
          have hl3 := hB.lt
          have HF := Lib.hid hF
          have HB := Lib.hid hB
          by_cases hlt : i < M.datas.length
          · have hd : decide ((i : Int) < (M.datas.length : Int)) = true := by simp; omega
            have hd' : decide (i < M.datas.length) = true := by simp; omega
            have hdI : (i : Int) < (M.datas.length : Int) := by omega
            obtain ⟨x, hx⟩ : ∃ x, M.datas[i]? = some x := ⟨M.datas[i], List.getElem?_eq_getElem hlt⟩
            obtain ⟨g, cap', ds, e, hg, hc1, hc2, hr, hcell⟩ := row_at HD.out len_dataQ hx
            have hml := hc2
            unfold maxLen at hml
            simp only [Value.slice.injEq] at e
            obtain ⟨rfl, _, rfl⟩ := e
            obtain ⟨_, _, vv, rfl, hrow⟩ := data_cells hr
            obtain ⟨pv, cv0, rfl⟩ := hrow.shape
            have HRV := Lib.hid hrow
            have HCV : Hid (w3.cell? ⟨g, i * 5 + 2, none⟩ = some (.slice pv x.variants.length cv0)) := Lib.hid (hcell 2 (by omega))
            have co := (hF.cell hg (by simp) _).trans (hcell 4 (by omega))
            simp only [List.getElem?_cons_succ, List.getElem?_cons_zero] at co
            have hgr : g < wr.heap.size := Nat.lt_of_lt_of_le hg hF.size
            have HTr := Lib.hid (HT3.out.same (hF.block Tb hTb3 (by simp)))
            have hTbr : Tb < wr.heap.size := Nat.lt_of_lt_of_le hTb3 hF.size
            have HM := Lib.hid (HG.out.d x (List.mem_of_getElem? hx))
            clear hF hB hr hcell hx hrow
            go_wp2_with fail
            refine (starts_any ts x.off _ a cap Tb _ HTr.out hfew hcap' hTbr HS.out HM.out.1).mono ?_
            rintro e w' ⟨rfl, rfl⟩
            go_wp2_with fail
            clear m2 hl3 co hgr HTr hTbr
            obtain ⟨wo, hwo⟩ : ∃ wo : World, wo = wr := ⟨_, rfl⟩
            subst hwo
            go_loopw [10] (fun v wr => ∃ k : Nat, v = .int .i64 k ∧ k ≤ x.variants.length ∧ Fr [] w3 wr ∧ Blk wr w3.heap.size 29 #[.string xn, .slice pu nu cu, .slice (some ⟨g, 0, none⟩) M.datas.length cd, .slice pt M.traits.length ct, .slice pi M.impls.length ci, .slice pf M.funcs.length cf]) (fun v _ => x.variants.length - (RowKit.intOf v).toNat)
            case atStart => exact ⟨0, rfl, by omega, HF.out, HB.out⟩
            case round =>
              obtain ⟨k, rfl, hk, hF, hB⟩ := hrel
              have m2 := (hB.cell 2 : wr.cell? ⟨w3.heap.size, 2, none⟩ = some (.slice (some ⟨g, 0, none⟩) M.datas.length cd))
              have hl3 := hB.lt
              have hgr : g < wr.heap.size := Nat.lt_of_lt_of_le hg hF.size
              have cv := (hF.cell hg (by simp) _).trans HCV.out
              have HF := Lib.hid hF
              have HB := Lib.hid hB
              by_cases hkl : k < x.variants.length
              · have hkd : decide ((k : Int) < (x.variants.length : Int)) = true := by simp; omega
                have hkd' : decide (k < x.variants.length) = true := by simp; omega
                have hkI : (k : Int) < (x.variants.length : Int) := by omega
                obtain ⟨y, hy⟩ : ∃ y, x.variants[k]? = some y := ⟨x.variants[k], List.getElem?_eq_getElem hkl⟩
                obtain ⟨gv, capv, es, e, hgv, hv1, hv2, hrv, hcellv⟩ := row_at HRV.out len_varQ hy
                have hml2 := hv2
                unfold maxLen at hml2
                simp only [Value.slice.injEq] at e
                obtain ⟨rfl, _, rfl⟩ := e
                obtain ⟨_, rfl⟩ := var_cells hrv
                have cn := (hF.cell hgv (by simp) _).trans (hcellv 0 (by omega))
                have co := (hF.cell hgv (by simp) _).trans (hcellv 2 (by omega))
                simp only [List.getElem?_cons_succ, List.getElem?_cons_zero, Nat.add_zero] at cn co
                have hgvr : gv < wr.heap.size := Nat.lt_of_lt_of_le hgv hF.size
                have HTr := Lib.hid (HT3.out.same (hF.block Tb hTb3 (by simp)))
                have hTbr : Tb < wr.heap.size := Nat.lt_of_lt_of_le hTb3 hF.size
                have HM2 := Lib.hid (HM.out.2 y (List.mem_of_getElem? hy))
                obtain ⟨z, hz⟩ : ∃ z : ByteArray, z = ⟨y.name.toArray⟩ := ⟨_, rfl⟩
                rw [← hz] at cn
                have HC : Hid (∀ n, Calls Tryz.prog 17 #[.slice a ts.length cap, .int .i64 y.off, .string z] (wr.drewN n) fun e w' => e = .returned (.bool true) ∧ w' = wr.drewN n) := Lib.hid (fun n => (starts_any ts y.off z a cap Tb (wr.drewN n) (HTr.out.same rfl) hfew hcap' hTbr HS.out (by obtain ⟨t, h1, h2, h3⟩ := HM2.out; exact ⟨t, h1, h2, by rw [h3, hz]⟩)).mono fun _ _ h => ⟨h.1, h.2.symm⟩)
                clear hF hB hrv hcellv hy hgv hz
                go_wp2_with fail
                go_quiet ((go_at_call 17; exact Calls.quiet_of_same (HC.out _)))
                go_wp2_with fail
                go_roundw
                case rel => exact ⟨k + 1, by go_num, by omega, HF.out.drewN _, HB.out⟩
                case measure => simp [RowKit.intOf]; omega
              · obtain rfl : k = x.variants.length := by omega
                have hkd : decide ((x.variants.length : Int) < (x.variants.length : Int)) = false := by simp
                clear hF hB
                go_wp2_with fail
                go_roundw
                case rel => exact ⟨i + 1, by go_num, by omega, HF.out, HB.out⟩
                case measure => simp [RowKit.intOf]; omega
          · obtain rfl : i = M.datas.length := by omega
            have hd : decide ((M.datas.length : Int) < (M.datas.length : Int)) = false := by simp
            clear hF hB
            go_wp2_with fail
            have HF0 := HF
            have HB0 := HB
            clear HF HB m2 hl3 hi hd hlt
            obtain ⟨wo, hwo⟩ : ∃ wo : World, wo = wr := ⟨_, rfl⟩
            subst hwo
            -- loops 3 to 7
            go_loopw [11] (fun v wr => ∃ i : Nat, v = .int .i64 i ∧ i ≤ M.traits.length ∧ Fr [] w3 wr ∧ Blk wr w3.heap.size 29 #[.string xn, .slice pu nu cu, .slice pd M.datas.length cd, .slice pt M.traits.length ct, .slice pi M.impls.length ci, .slice pf M.funcs.length cf]) (fun v _ => M.traits.length - (RowKit.intOf v).toNat)
            case atStart => exact ⟨0, rfl, by omega, HF0.out, HB0.out⟩
            case round =>
              clear HF0 HB0
              obtain ⟨i, rfl, hi, hF, hB⟩ := hrel
              have m3 := (hB.cell 3 : wr.cell? ⟨w3.heap.size, 3, none⟩ = some (.slice pt M.traits.length ct))
              have hl3 := hB.lt
              have HF := Lib.hid hF
              have HB := Lib.hid hB
              by_cases hlt : i < M.traits.length
              · have hd : decide ((i : Int) < (M.traits.length : Int)) = true := by simp; omega
                have hd' : decide (i < M.traits.length) = true := by simp; omega
                have hdI : (i : Int) < (M.traits.length : Int) := by omega
                obtain ⟨x, hx⟩ : ∃ x, M.traits[i]? = some x := ⟨M.traits[i], List.getElem?_eq_getElem hlt⟩
                obtain ⟨g, cap', ds, e, hg, hc1, hc2, hr, hcell⟩ := row_at HTR.out len_traitQ hx
                have hml := hc2
                unfold maxLen at hml
                simp only [Value.slice.injEq] at e
                obtain ⟨rfl, _, rfl⟩ := e
                obtain ⟨_, rfl⟩ := trait_cells hr
                have co := (hF.cell hg (by simp) _).trans (hcell 1 (by omega))
                simp only [List.getElem?_cons_succ, List.getElem?_cons_zero] at co
                have hgr : g < wr.heap.size := Nat.lt_of_lt_of_le hg hF.size
                have HTr := Lib.hid (HT3.out.same (hF.block Tb hTb3 (by simp)))
                have hTbr : Tb < wr.heap.size := Nat.lt_of_lt_of_le hTb3 hF.size
                have HM := Lib.hid (HG.out.t x (List.mem_of_getElem? hx))
                clear hF hB hr hcell hx hg
                go_wp2_with fail
                refine (starts_any ts x.off ⟨#[116, 114, 97, 105, 116]⟩ a cap Tb _ HTr.out hfew hcap' hTbr HS.out HM.out).mono ?_
                rintro e w' ⟨rfl, rfl⟩
                go_wp2_with fail
                go_roundw
                case rel => exact ⟨i + 1, by go_num, by omega, HF.out, HB.out⟩
                case measure => simp [RowKit.intOf]; omega
              · obtain rfl : i = M.traits.length := by omega
                have hd : decide ((M.traits.length : Int) < (M.traits.length : Int)) = false := by simp
                clear hF hB
                go_wp2_with fail
                have HF0 := HF
                have HB0 := HB
                clear HF HB m3 hl3 hi hd hlt
                obtain ⟨wo, hwo⟩ : ∃ wo : World, wo = wr := ⟨_, rfl⟩
                subst hwo
                go_loopw [12] (fun v wr => ∃ i : Nat, v = .int .i64 i ∧ i ≤ M.impls.length ∧ Fr [] w3 wr ∧ Blk wr w3.heap.size 29 #[.string xn, .slice pu nu cu, .slice pd M.datas.length cd, .slice pt M.traits.length ct, .slice pi M.impls.length ci, .slice pf M.funcs.length cf]) (fun v _ => M.impls.length - (RowKit.intOf v).toNat)
                case atStart => exact ⟨0, rfl, by omega, HF0.out, HB0.out⟩
                case round =>
                  clear HF0 HB0
                  obtain ⟨i, rfl, hi, hF, hB⟩ := hrel
                  have m4 := (hB.cell 4 : wr.cell? ⟨w3.heap.size, 4, none⟩ = some (.slice pi M.impls.length ci))
                  have hl3 := hB.lt
                  have HF := Lib.hid hF
                  have HB := Lib.hid hB
                  by_cases hlt : i < M.impls.length
                  · have hd : decide ((i : Int) < (M.impls.length : Int)) = true := by simp; omega
                    have hd' : decide (i < M.impls.length) = true := by simp; omega
                    have hdI : (i : Int) < (M.impls.length : Int) := by omega
                    obtain ⟨x, hx⟩ : ∃ x, M.impls[i]? = some x := ⟨M.impls[i], List.getElem?_eq_getElem hlt⟩
                    obtain ⟨g, cap', ds, e, hg, hc1, hc2, hr, hcell⟩ := row_at HI.out len_implQ hx
                    have hml := hc2
                    unfold maxLen at hml
                    simp only [Value.slice.injEq] at e
                    obtain ⟨rfl, _, rfl⟩ := e
                    obtain ⟨_, _, _, _, _, _, _, rfl⟩ := impl_cells hr
                    have co := (hF.cell hg (by simp) _).trans (hcell 7 (by omega))
                    simp only [List.getElem?_cons_succ, List.getElem?_cons_zero] at co
                    have hgr : g < wr.heap.size := Nat.lt_of_lt_of_le hg hF.size
                    have HTr := Lib.hid (HT3.out.same (hF.block Tb hTb3 (by simp)))
                    have hTbr : Tb < wr.heap.size := Nat.lt_of_lt_of_le hTb3 hF.size
                    have HM := Lib.hid (HG.out.i x (List.mem_of_getElem? hx))
                    clear hF hB hr hcell hx hg
                    go_wp2_with fail
                    refine (starts_any ts x.off ⟨#[105, 109, 112, 108]⟩ a cap Tb _ HTr.out hfew hcap' hTbr HS.out HM.out).mono ?_
                    rintro e w' ⟨rfl, rfl⟩
                    go_wp2_with fail
                    go_roundw
                    case rel => exact ⟨i + 1, by go_num, by omega, HF.out, HB.out⟩
                    case measure => simp [RowKit.intOf]; omega
                  · obtain rfl : i = M.impls.length := by omega
                    have hd : decide ((M.impls.length : Int) < (M.impls.length : Int)) = false := by simp
                    clear hF hB
                    go_wp2_with fail
                    have HF0 := HF
                    have HB0 := HB
                    clear HF HB m4 hl3 hi hd hlt
                    obtain ⟨wo, hwo⟩ : ∃ wo : World, wo = wr := ⟨_, rfl⟩
                    subst hwo
                    go_loopw [13] (fun v wr => ∃ i : Nat, v = .int .i64 i ∧ i ≤ M.funcs.length ∧ Fr [] w3 wr ∧ Blk wr w3.heap.size 29 #[.string xn, .slice pu nu cu, .slice pd M.datas.length cd, .slice pt M.traits.length ct, .slice pi M.impls.length ci, .slice pf M.funcs.length cf]) (fun v _ => M.funcs.length - (RowKit.intOf v).toNat)
                    case atStart => exact ⟨0, rfl, by omega, HF0.out, HB0.out⟩
                    case round =>
                      clear HF0 HB0
                      obtain ⟨i, rfl, hi, hF, hB⟩ := hrel
                      have m5 := (hB.cell 5 : wr.cell? ⟨w3.heap.size, 5, none⟩ = some (.slice pf M.funcs.length cf))
                      have hl3 := hB.lt
                      have HF := Lib.hid hF
                      have HB := Lib.hid hB
                      by_cases hlt : i < M.funcs.length
                      · have hd : decide ((i : Int) < (M.funcs.length : Int)) = true := by simp; omega
                        have hd' : decide (i < M.funcs.length) = true := by simp; omega
                        have hdI : (i : Int) < (M.funcs.length : Int) := by omega
                        obtain ⟨x, hx⟩ : ∃ x, M.funcs[i]? = some x := ⟨M.funcs[i], List.getElem?_eq_getElem hlt⟩
                        obtain ⟨g, cap', ds, e, hg, hc1, hc2, hr, hcell⟩ := row_at HFN.out len_funcQ hx
                        have hml := hc2
                        unfold maxLen at hml
                        simp only [Value.slice.injEq] at e
                        obtain ⟨rfl, _, rfl⟩ := e
                        obtain ⟨xf, p1, n1, c1, p2, n2, c2, p3, n3, c3, p4, c4, yf, p5, n5, c5, of, p6, c6, rfl, hra, hrb⟩ := func_cells hr
                        have HRA := Lib.hid hra
                        have HRB := Lib.hid hrb
                        have k0 := (hF.cell hg (by simp) _).trans (hcell 0 (by omega))
                        have k1 := (hF.cell hg (by simp) _).trans (hcell 1 (by omega))
                        have k2 := (hF.cell hg (by simp) _).trans (hcell 2 (by omega))
                        have k3 := (hF.cell hg (by simp) _).trans (hcell 3 (by omega))
                        have k4 := (hF.cell hg (by simp) _).trans (hcell 4 (by omega))
                        have k5 := (hF.cell hg (by simp) _).trans (hcell 5 (by omega))
                        have k6 := (hF.cell hg (by simp) _).trans (hcell 6 (by omega))
                        have k7 := (hF.cell hg (by simp) _).trans (hcell 7 (by omega))
                        have k8 := (hF.cell hg (by simp) _).trans (hcell 8 (by omega))
                        have k9 := (hF.cell hg (by simp) _).trans (hcell 9 (by omega))
                        simp only [fcells, List.getElem?_cons_succ, List.getElem?_cons_zero, Nat.add_zero] at k0 k1 k2 k3 k4 k5 k6 k7 k8 k9
                        have hgr : g < wr.heap.size := Nat.lt_of_lt_of_le hg hF.size
                        have HM := Lib.hid (HG.out.f x (List.mem_of_getElem? hx))
                        have hTbr : Tb < wr.heap.size := Nat.lt_of_lt_of_le hTb3 hF.size
                        clear hF hB hr hcell hx hg hra hrb
                        go_wp2_with fail
                        refine (starts_any ts (foff x) ⟨#[102, 110]⟩ a cap Tb _ (by exact HT3.out.same ((HF.out.alloc _).block Tb hTb3 (by simp))) hfew hcap' (by simp; omega) HS.out HM.out.1).mono ?_
                        rintro e w' ⟨rfl, rfl⟩
                        obtain ⟨B, hBe⟩ : ∃ B, B = wr.heap.size := ⟨_, rfl⟩
                        obtain ⟨wq, hwq⟩ : ∃ wq : World, wq = wr.alloc (.cells #[.string xf, .slice p1 n1 c1, .slice p2 n2 c2, .slice p3 n3 c3, .slice p4 (fargs x).length c4, .string yf, .slice p5 n5 c5, .int .i64 of, .slice p6 (fbody x).length c6, .int .i64 (foff x)] 68) := ⟨_, rfl⟩
                        have HQ : Hid (Blk wq B 68 #[.string xf, .slice p1 n1 c1, .slice p2 n2 c2, .slice p3 n3 c3, .slice p4 (fargs x).length c4, .string yf, .slice p5 n5 c5, .int .i64 of, .slice p6 (fbody x).length c6, .int .i64 (foff x)]) := Lib.hid (by rw [hwq, hBe]; exact Blk.new _ _ _)
                        have HSZ2 : Hid (B + 1 ≤ wq.heap.size) := Lib.hid (by rw [hwq, hBe]; simp)
                        have HF2' : Hid (Fr [] w3 wq) := Lib.hid (by rw [hwq]; exact HF.out.alloc _)
                        have HB2' : Hid (Blk wq w3.heap.size 29 #[.string xn, .slice pu nu cu, .slice pd M.datas.length cd, .slice pt M.traits.length ct, .slice pi M.impls.length ci, .slice (some ⟨g, 0, none⟩) M.funcs.length cf]) := Lib.hid (by rw [hwq]; exact HB.out.alloc _)
                        rw [← hwq, ← hBe]
                        clear HF HB
                        have HF := HF2'
                        have HB := HB2'
                        clear HF2' HB2' m5 hl3 k0 k1 k2 k3 k4 k5 k6 k7 k8 k9 hgr hTbr hwq hBe
                        go_wp2_with fail
                        go_loopw [15] (fun v wr => ∃ k : Nat, v = .int .i64 k ∧ k ≤ (fargs x).length ∧ Fr [] w3 wr ∧ Blk wr w3.heap.size 29 #[.string xn, .slice pu nu cu, .slice pd M.datas.length cd, .slice pt M.traits.length ct, .slice pi M.impls.length ci, .slice (some ⟨g, 0, none⟩) M.funcs.length cf] ∧ Blk wr B 68 #[.string xf, .slice p1 n1 c1, .slice p2 n2 c2, .slice p3 n3 c3, .slice p4 (fargs x).length c4, .string yf, .slice p5 n5 c5, .int .i64 of, .slice p6 (fbody x).length c6, .int .i64 (foff x)] ∧ B + 1 ≤ wr.heap.size) (fun v _ => (fargs x).length - (RowKit.intOf v).toNat)
                        case atStart => exact ⟨0, rfl, by omega, HF.out, HB.out, HQ.out, HSZ2.out⟩
                        case round =>
                          obtain ⟨k, rfl, hk, hF, hB, hQ, hz⟩ := hrel
                          have q4 := (hQ.cell 4 : wr.cell? ⟨B, 4, none⟩ = some (.slice p4 (fargs x).length c4))
                          have hlB : B < wr.heap.size := by omega
                          clear HF HB HQ HSZ2
                          have HF := Lib.hid hF
                          have HB := Lib.hid hB
                          have HQ := Lib.hid hQ
                          have HSZ2 := Lib.hid hz
                          by_cases hkl : k < (fargs x).length
                          · have hkd : decide ((k : Int) < ((fargs x).length : Int)) = true := by simp; omega
                            have hkd' : decide (k < (fargs x).length) = true := by simp; omega
                            have hkI : (k : Int) < ((fargs x).length : Int) := by omega
                            obtain ⟨y, hy⟩ : ∃ y, (fargs x)[k]? = some y := ⟨(fargs x)[k], List.getElem?_eq_getElem hkl⟩
                            obtain ⟨gv, capv, es, e, hgv, hv1, hv2, hrv, hcellv⟩ := row_at HRA.out len_argQ hy
                            have hml2 := hv2
                            unfold maxLen at hml2
                            simp only [Value.slice.injEq] at e
                            obtain ⟨rfl, _, rfl⟩ := e
                            obtain ⟨_, _, _, _, rfl⟩ := arg_cells hrv
                            have cn := (hF.cell hgv (by simp) _).trans (hcellv 0 (by omega))
                            have co := (hF.cell hgv (by simp) _).trans (hcellv 5 (by omega))
                            simp only [List.getElem?_cons_succ, List.getElem?_cons_zero, Nat.add_zero] at cn co
                            have hgvr : gv < wr.heap.size := Nat.lt_of_lt_of_le hgv hF.size
                            have HTr := Lib.hid (HT3.out.same (hF.block Tb hTb3 (by simp)))
                            have hTbr : Tb < wr.heap.size := Nat.lt_of_lt_of_le hTb3 hF.size
                            have HM2 := Lib.hid (HM.out.2.1 y (List.mem_of_getElem? hy))
                            obtain ⟨z, hz2⟩ : ∃ z : ByteArray, z = ⟨y.name.toArray⟩ := ⟨_, rfl⟩
                            rw [← hz2] at cn
                            have HC : Hid (∀ n, Calls Tryz.prog 17 #[.slice a ts.length cap, .int .i64 y.off, .string z] (wr.drewN n) fun e w' => e = .returned (.bool true) ∧ w' = wr.drewN n) := Lib.hid (fun n => (starts_any ts y.off z a cap Tb (wr.drewN n) (HTr.out.same rfl) hfew hcap' hTbr HS.out (by obtain ⟨t, h1, h2, h3⟩ := HM2.out; exact ⟨t, h1, h2, by rw [h3, hz2]⟩)).mono fun _ _ h => ⟨h.1, h.2.symm⟩)
                            clear hF hB hQ hz hrv hcellv hy hgv hz2
                            go_wp2_with fail
                            go_quiet ((go_at_call 17; exact Calls.quiet_of_same (HC.out _)))
                            go_wp2_with fail
                            go_roundw
                            case rel => exact ⟨k + 1, by go_num, by omega, HF.out.drewN _, HB.out, HQ.out, HSZ2.out⟩
                            case measure => simp [RowKit.intOf]; omega
                          · obtain rfl : k = (fargs x).length := by omega
                            have hkd : decide (((fargs x).length : Int) < ((fargs x).length : Int)) = false := by simp
                            have q9 := (hQ.cell 9 : wr.cell? ⟨B, 9, none⟩ = some (.int .i64 (foff x)))
                            clear hF hB hQ hz
                            go_wp2_with fail
                            clear q4 q9 hlB hkd hkl hk
                            obtain ⟨wo2, hwo⟩ : ∃ wo : World, wo = wr := ⟨_, rfl⟩
                            subst hwo
                            go_loopw [17, 16] (fun v l wr => ∃ k : Nat, v = .int .i64 k ∧ l = .int .i64 (lastOf (foff x) (fbody x) k) ∧ k ≤ (fbody x).length ∧ Fr [] w3 wr ∧ Blk wr w3.heap.size 29 #[.string xn, .slice pu nu cu, .slice pd M.datas.length cd, .slice pt M.traits.length ct, .slice pi M.impls.length ci, .slice (some ⟨g, 0, none⟩) M.funcs.length cf] ∧ Blk wr B 68 #[.string xf, .slice p1 n1 c1, .slice p2 n2 c2, .slice p3 n3 c3, .slice p4 (fargs x).length c4, .string yf, .slice p5 n5 c5, .int .i64 of, .slice p6 (fbody x).length c6, .int .i64 (foff x)] ∧ B + 1 ≤ wr.heap.size) (fun v _ _ => (fbody x).length - (RowKit.intOf v).toNat)
                            case atStart => exact ⟨0, rfl, rfl, by omega, HF.out, HB.out, HQ.out, HSZ2.out⟩
                            case round =>
                              obtain ⟨k, rfl, rfl, hk, hF, hB, hQ, hz⟩ := hrel
                              have q6 := (hQ.cell 8 : wr.cell? ⟨B, 8, none⟩ = some (.slice p6 (fbody x).length c6))
                              have hlB : B < wr.heap.size := by omega
                              clear HF HB HQ HSZ2
                              have HF := Lib.hid hF
                              have HB := Lib.hid hB
                              have HQ := Lib.hid hQ
                              have HSZ2 := Lib.hid hz
                              by_cases hkl : k < (fbody x).length
                              · have hkd : decide ((k : Int) < ((fbody x).length : Int)) = true := by simp; omega
                                have hkd' : decide (k < (fbody x).length) = true := by simp; omega
                                have hkI : (k : Int) < ((fbody x).length : Int) := by omega
                                obtain ⟨y, hy⟩ : ∃ y, (fbody x)[k]? = some y := ⟨(fbody x)[k], List.getElem?_eq_getElem hkl⟩
                                obtain ⟨gv, capv, es, e, hgv, hv1, hv2, hrv, hcellv⟩ := row_at HRB.out len_stmtQ hy
                                have hml2 := hv2
                                unfold maxLen at hml2
                                simp only [Value.slice.injEq] at e
                                obtain ⟨rfl, _, rfl⟩ := e
                                have co := ((hF.cell hgv (by simp) _).trans (hcellv 16 (by omega))).trans (stmt_cells hrv)
                                have hgvr : gv < wr.heap.size := Nat.lt_of_lt_of_le hgv hF.size
                                have HTr := Lib.hid (HT3.out.same (hF.block Tb hTb3 (by simp)))
                                have hTbr : Tb < wr.heap.size := Nat.lt_of_lt_of_le hTb3 hF.size
                                have hless := inc_get _ _ _ _ HM.out.2.2.2 hy
                                have HLS := Lib.hid (lastOf_succ (lo := foff x) hy)
                                have hpl := placeL_lt HS.out (HM.out.2.2.1 y (List.mem_of_getElem? hy))
                                obtain ⟨pl, HPL⟩ : ∃ pl, Hid (placeL ts (soff y : Int) = pl) := ⟨_, Lib.hid rfl⟩
                                rw [HPL.out] at hpl
                                obtain ⟨la, HLA⟩ : ∃ la, Hid (lastOf (foff x) (fbody x) k = la) := ⟨_, Lib.hid rfl⟩
                                rw [HLA.out] at hless ⊢
                                obtain ⟨so, hso⟩ : ∃ so, soff y = so := ⟨_, rfl⟩
                                rw [hso] at hless co
                                have HSO := Lib.hid hso
                                have hn1 : ((pl : Int) == (ts.length : Int)) = false := by rw [beq_eq_false_iff_ne]; omega
                                have hn1' : (pl == ts.length) = false := by rw [beq_eq_false_iff_ne]; omega
                                have hn2 : decide ((so : Int) ≤ (la : Int)) = false := by simp; omega
                                have hn2' : decide (so ≤ la) = false := by simp; omega
                                clear hF hB hQ hz hrv hcellv hy hgv hso
                                go_wp2_with fail
                                refine (place_any ts so a cap Tb _ HTr.out hfew hcap' hTbr).mono ?_
                                rintro e w' ⟨rfl, rfl⟩
                                rw [← HSO.out, HPL.out]
                                go_wp2_with fail
                                go_roundw
                                case rel => exact ⟨k + 1, by go_num, by rw [HLS.out, HSO.out], by omega, HF.out, HB.out, HQ.out, HSZ2.out⟩
                                case measure => simp [RowKit.intOf]; omega
                              · obtain rfl : k = (fbody x).length := by omega
                                have hkd : decide (((fbody x).length : Int) < ((fbody x).length : Int)) = false := by simp
                                clear hF hB hQ hz
                                go_wp2_with fail
                                go_roundw
                                case rel => exact ⟨i + 1, by go_num, by omega, HF.out, HB.out⟩
                                case measure => simp [RowKit.intOf]; omega
                      · obtain rfl : i = M.funcs.length := by omega
                        have hd : decide ((M.funcs.length : Int) < (M.funcs.length : Int)) = false := by simp
                        clear hF hB
                        go_wp2_with fail
                        have HF0 := HF
                        have HB0 := HB
                        clear HF HB m5 hl3 hi hd hlt
                        go_ret
                        exact ⟨rfl, HF3.out.trans HF0.out⟩
    · have hpz : ((pe : Int) != 0) = true := by rw [bne_iff_ne]; omega
      clear hr hpe hpe1
      go_enter Tryz.func8, Tryz.ntmps8
      go_wp2_with fail
      refine (phead_any w HL.out).mono ?_
      rintro e w1 ⟨rfl, hf1⟩
      go_wp2_with fail
      refine (tokens_short s 1000 _ HSZ (by decide) (Nat.lt_of_lt_of_le h0 hf1.size)).mono ?_
      rintro e w2 ⟨a, cap, Tb, rfl, hT, hTb, hcap, hf2⟩
      rw [HR.out]
      have HF2 := Lib.hid (hf1.trans hf2)
      clear hf1 hf2 hT hTb hcap
      go_wp2_with fail
      refine (parse_errs s _ hs (HL.out.fr HF2.out) _ HPE.out).mono ?_
      rintro e w3 ⟨s1, p2, n2, c2, p3, n3, c3, p4, n4, c4, p5, n5, c5, p6, n6, c6, rfl, hf3⟩
      have HF3 := Lib.hid (HF2.out.trans hf3)
      clear hf3
      go_wp2_with fail
      go_ret
      exact ⟨rfl, HF3.out.alloc _⟩
  · have hd : ((er : Int) == 0) = false := by rw [beq_eq_false_iff_ne]; omega
    have hdn : (er == 0) = false := by rw [beq_eq_false_iff_ne]; omega
    clear hr hpe hpe1
    go_enter Tryz.func8, Tryz.ntmps8
    go_wp2_with fail
    refine (phead_any w HL.out).mono ?_
    rintro e w1 ⟨rfl, hf1⟩
    go_wp2_with fail
    refine (tokens_short s 1000 _ HSZ (by decide) (Nat.lt_of_lt_of_le h0 hf1.size)).mono ?_
    rintro e w2 ⟨a, cap, Tb, rfl, hT, hTb, hcap, hf2⟩
    rw [HR.out]
    have HF2 := Lib.hid (hf1.trans hf2)
    clear hf1 hf2 hT hTb hcap
    go_wp2_with fail
    refine (parse_errs s _ hs (HL.out.fr HF2.out) _ HPE.out).mono ?_
    rintro e w3 ⟨s1, p2, n2, c2, p3, n3, c3, p4, n4, c4, p5, n5, c5, p6, n6, c6, rfl, hf3⟩
    have HF3 := Lib.hid (HF2.out.trans hf3)
    clear hf3
    go_wp2_with fail
    go_ret
    exact ⟨rfl, HF3.out.alloc _⟩
end Go.Proofs.YtefihbhcdocgfaaGreatDoor
