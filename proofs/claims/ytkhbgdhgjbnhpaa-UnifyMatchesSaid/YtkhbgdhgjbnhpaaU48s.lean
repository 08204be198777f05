/-
  The walk of UnifyMatches.
-/
import Derived.Test.YtkhbgdhgjbnhpaaU48m
import Derived.Deep.RegionHeld3
import Derived.Test.YtkhbgdhgjbnhpaaU47
import Derived.Test.YtkhbgdhgjbnhpaaU11
import Derived.Test.YtkhbgdhgjbnhpaaU32
set_option linter.unusedVariables false
set_option linter.unusedSimpArgs false
set_option linter.unusedSectionVars false
namespace Go.Proofs.Ytkhbgdhgjbnhpaa
open Go.RowKit Go.Lib
open Un (kd nm ar size sizes same sames small subst bare hasP)

set_option maxRecDepth 100000 in
set_option maxHeartbeats 64000000 in
theorem matches_any_s (P T : Ty) (l : List Ty) (cs es : List Value) (v : Value) (w : World) (hP : TyV w (fun _ => True) P cs) (hT : TyV w (fun _ => True) T es) (hL : TysV w (fun _ => True) l v) (hwp : ∀ i ∈ Un.pars P, (Lit.int .i64 i).wf = true) (mm : List Ty) (hm0 : Un.matched l.length P T = some mm) :
    Calls Try.prog 6 #[.agg cs.toArray, .agg es.toArray, v] w (LookP true w) := by
  have HP := Lib.hid hP
  have HT := Lib.hid hT
  have HL := Lib.hid hL
  have HWP := Lib.hid hwp
  obtain ⟨pp, cp, rfl, _⟩ := hP.shape
  obtain ⟨pt, ct, rfl, _⟩ := hT.shape
  obtain ⟨pl, cl, rfl⟩ := hL.shape
  have hll := hL.len
  unfold maxLen at hll
  obtain ⟨b, hb⟩ : ∃ b, b = w.heap.size := ⟨_, rfl⟩
  obtain ⟨w1, hw1⟩ : ∃ w1, w1 = (w.alloc (.cells #[.int .i64 (kd P), .int .i64 (nm P), .slice pp (ar P).length cp] 24)).alloc (.cells #[.int .i64 (kd T), .int .i64 (nm T), .slice pt (ar T).length ct] 24) := ⟨_, rfl⟩
  have HF1 : Hid (Fr [] w w1) := Lib.hid (by rw [hw1]; exact ((Fr.refl _ _).alloc _).alloc _)
  have HBP : Hid (Blk w1 b 24 #[.int .i64 (kd P), .int .i64 (nm P), .slice pp (ar P).length cp]) := Lib.hid (by rw [hw1, hb]; exact (Blk.new _ _ _).alloc _)
  have HBT : Hid (Blk w1 (b + 1) 24 #[.int .i64 (kd T), .int .i64 (nm T), .slice pt (ar T).length ct]) := Lib.hid (by rw [hw1, hb]; exact Blk.new_at (by simp))
  have HP0 : Hid (∀ wx, Fr [] w1 wx → TyV wx (fun _ => True) P [.int .i64 (kd P), .int .i64 (nm P), .slice pp (ar P).length cp]) := Lib.hid (fun wx hf => TyV.keep0 (TyV.keep0 HP.out HF1.out) hf)
  have HT0 : Hid (∀ wx, Fr [] w1 wx → TyV wx (fun _ => True) T [.int .i64 (kd T), .int .i64 (nm T), .slice pt (ar T).length ct]) := Lib.hid (fun wx hf => TyV.keep0 (TyV.keep0 HT.out HF1.out) hf)
  have HL0 : Hid (∀ wx, Fr [] w1 wx → TysV wx (fun _ => True) l (.slice pl l.length cl)) := Lib.hid (fun wx hf => TysV.keep0 (TysV.keep0 HL.out HF1.out) hf)
  clear hP hT hL hwp
  go_enter Try.func6, Try.ntmps6
  go_wp2_with fail
  rw [← hb]
  rw [← hw1]
  clear hw1 hb
  have HK : Hid (∀ wx, Fr [] w1 wx → wx.cell? ⟨b, 0, none⟩ = some (.int .i64 (kd P)) ∧ wx.cell? ⟨b, 1, none⟩ = some (.int .i64 (nm P)) ∧ wx.cell? ⟨b, 2, none⟩ = some (.slice pp (ar P).length cp) ∧ wx.cell? ⟨b + 1, 0, none⟩ = some (.int .i64 (kd T)) ∧ wx.cell? ⟨b + 1, 1, none⟩ = some (.int .i64 (nm T)) ∧ wx.cell? ⟨b + 1, 2, none⟩ = some (.slice pt (ar T).length ct) ∧ b < wx.heap.size ∧ b + 1 < wx.heap.size) := Lib.hid (fun wx hf => ⟨(Blk.keep (X := []) HBP.out hf (by simp)).cell 0, (Blk.keep (X := []) HBP.out hf (by simp)).cell 1, (Blk.keep (X := []) HBP.out hf (by simp)).cell 2, (Blk.keep (X := []) HBT.out hf (by simp)).cell 0, (Blk.keep (X := []) HBT.out hf (by simp)).cell 1, (Blk.keep (X := []) HBT.out hf (by simp)).cell 2, (Blk.keep (X := []) HBP.out hf (by simp)).lt, (Blk.keep (X := []) HBT.out hf (by simp)).lt⟩)
  refine (head_any w1).mono ?_
  rintro e wn ⟨rfl, hf⟩
  have HX := Lib.hid hf
  clear hf
  go_wp2_with fail
  refine (small_any _ l _ wn (HL0.out wn HX.out)).mono ?_
  rintro e wn ⟨rfl, hf⟩
  have HX := Lib.hid (HX.out.trans hf)
  clear hf
  cases hs1 : small l with
  | false =>
    go_wp2_with fail
    go_ret
    exact ⟨rfl, HF1.out.trans HX.out⟩
  | true =>
    have HS1 := Lib.hid hs1
    clear hs1
    obtain ⟨y0, y1, y2, y3, y4, y5, y6, y7⟩ := HK.out wn HX.out
    go_wp2_with fail
    obtain ⟨wm, hwm⟩ : ∃ x, x = wn.alloc (.cells #[.int .i64 (kd P), .int .i64 (nm P), .slice pp (ar P).length cp, .int .i64 (kd T), .int .i64 (nm T), .slice pt (ar T).length ct] 24) := ⟨_, rfl⟩
    have HFM : Hid (Fr [] wn wm) := Lib.hid (by rw [hwm]; exact (Fr.refl [] _).alloc _)
    have HXM := Lib.hid (HX.out.trans HFM.out)
    have hlt : TysV wm (fun _ => True) [P, T] (.slice (some ⟨wn.heap.size, 0, none⟩) 2 2) := newTys (l := [P, T]) (by simp) trivial (by rw [hwm]; exact Blk.new _ _ _) (InN.app (HP0.out wm HXM.out) (InN.app (cs := [.int .i64 (kd T), .int .i64 (nm T), .slice pt (ar T).length ct]) (ds := []) (HT0.out wm HXM.out) (InN.mk_nil _ _)))
    rw [← hwm]
    clear hwm
    clear y0 y1 y2 y3 y4 y5 y6 y7
    refine (small_any _ [P, T] _ wm hlt).mono ?_
    rintro e wo ⟨rfl, hf⟩
    have HX := Lib.hid (HXM.out.trans hf)
    clear hf hlt HFM HXM
    cases hs2 : small [P, T] with
    | false =>
      go_wp2_with fail
      go_ret
      exact ⟨rfl, HF1.out.trans HX.out⟩
    | true =>
      have HSP : Hid (size P ≤ 30) := Lib.hid ((Un.small_size hs2).1 P (by simp))
      have HST : Hid (size T ≤ 30) := Lib.hid ((Un.small_size hs2).1 T (by simp))
      clear hs2
      by_cases hl4 : 4 < l.length
      · have hd1 : decide ((4 : Int) < (l.length : Int)) = true := by simp; omega
        have hd2 : decide (4 < l.length) = true := by simpa using hl4
        go_wp2_with fail
        go_ret
        exact ⟨rfl, HF1.out.trans HX.out⟩
      have hd1 : decide ((4 : Int) < (l.length : Int)) = false := by simp; omega
      have hd2 : decide (4 < l.length) = false := by simpa using hl4
      obtain ⟨y0, y1, y2, y3, y4, y5, y6, y7⟩ := HK.out wo HX.out
      go_wp2_with fail
      have hmt := match_any _ P T l.length (by omega) (by have := HSP.out; omega) (by have := HST.out; omega) HWP.out (by have := Un.pars_len P; have := HSP.out; omega) _ _ wo (HP0.out wo HX.out) (HT0.out wo HX.out)
      refine hmt.mono ?_
      clear hmt hd1 hd2
      clear y0 y1 y2 y3 y4 y5 y6 y7
      have HMR := Lib.hid hm0.symm
      rw [hm0]
      clear hm0
      rintro e wp hMP
      have HSM : Hid (∀ (wx : World) (x : Ty) (cs ds : List Value), TyV wx (fun _ => True) x cs → TyV wx (fun _ => True) x ds → Calls Try.prog 16 #[.agg cs.toArray, .agg ds.toArray] wx (LookP true wx)) := Lib.hid (fun wx x cs ds h h' => by
        have h1 := rsame_any _ _ (size x) x (Nat.le_refl _) x cs ds wx h h'
        rwa [show same x x = true from (Un.same_eq x x).2 rfl] at h1)
      have hsl : ∀ u ∈ l, size u ≤ 100000 := fun u hu => by have := (Un.small_size HS1.out).1 u hu; omega
      have HSL := Lib.hid hsl
      clear hsl
      obtain ⟨hf, vm, rfl, hvm⟩ := hMP
      have hml : mm.length = l.length := Un.matched_len HMR.out.symm
      have hms : subst mm P = T := Un.matched_subst HMR.out.symm
      obtain ⟨pm, cm, rfl⟩ := hvm.shape
      rw [hml] at hvm ⊢
      have HVM := Lib.hid (TysV.weak (N' := fun _ => True) hvm (fun _ _ _ => trivial))
      have hsm : ∀ u ∈ mm, size u ≤ 100000 := fun u hu => by
        have h1 := Un.matched_size HMR.out.symm u hu
        have h2 := HST.out
        omega
      have HSU : Hid (∀ wx, Fr [] wp wx → Fr [] w1 wx → Calls Try.prog 17 #[.slice pm l.length cm, .agg #[.int .i64 (kd P), .int .i64 (nm P), .slice pp (ar P).length cp]] wx (NewP T wx)) := Lib.hid (fun wx hg hf => by
        have h1 := subst_any mm P _ _ wx _ _ (TysV.keep0 HVM.out hg) (HP0.out wx hf) (by have := HSP.out; omega) hsm
        rwa [hms] at h1)
      have hne : ((l.length : Int) != (l.length : Int)) = false := by simp
      have hne2 : (l.length != l.length) = false := by simp
      clear hml hms hvm hsm
      have HX := Lib.hid (HX.out.trans hf)
      clear hf
      go_wp2_with fail
      go_cut [54] (fun s54 wx => s54 = .bool false ∧ Fr [] wp wx)
      case first =>
        have HN : Hid (Fr [] w1 wp.drew) := Lib.hid (HX.out.trans ((Fr.refl [] _).drew))
        have HM : Hid (Fr [] wp wp.drew) := Lib.hid ((Fr.refl [] _).drew)
        go_region_held3 (fun w' => w'.cell? ⟨b, 0, none⟩ = some (.int .i64 (kd P)) ∧ w'.cell? ⟨b, 1, none⟩ = some (.int .i64 (nm P)) ∧ w'.cell? ⟨b, 2, none⟩ = some (.slice pp (ar P).length cp) ∧ w'.cell? ⟨b + 1, 0, none⟩ = some (.int .i64 (kd T)) ∧ w'.cell? ⟨b + 1, 1, none⟩ = some (.int .i64 (nm T)) ∧ w'.cell? ⟨b + 1, 2, none⟩ = some (.slice pt (ar T).length ct) ∧ b < w'.heap.size ∧ b + 1 < w'.heap.size) (exact HK.out _ HN.out)
          (first | (go_at_call 17; (with_reducible refine (HSU.out _ HM.out HN.out).mono ?_); rintro e wn ⟨hf, dsn, rfl, hty⟩; (try have T1 := Lib.hid (TyV.keep0 T1.out hf)); have HM := Lib.hid (HM.out.trans hf); obtain ⟨pn, cn, rfl, _⟩ := hty.shape; have T1 := Lib.hid (TyV.weak (N' := fun _ => True) hty (fun _ _ _ => trivial)); clear hty; have HN := Lib.hid (HN.out.trans hf); clear hf) | (go_at_call 16; (with_reducible refine (HSM.out _ T _ _ T1.out (HT0.out _ HN.out)).mono ?_); rintro e wn ⟨rfl, hf⟩; (try have T1 := Lib.hid (TyV.keep0 T1.out hf)); have HM := Lib.hid (HM.out.trans hf); have HN := Lib.hid (HN.out.trans hf); clear hf))
        all_goals (try go_wp2_with fail)
        all_goals (go_meet; exact ⟨rfl, HM.out⟩)
      case rest =>
        obtain ⟨rfl, hz⟩ := hcut
        have HX := Lib.hid (HX.out.trans hz)
        clear hz
        obtain ⟨y0, y1, y2, y3, y4, y5, y6, y7⟩ := HK.out _ HX.out
        go_wp2_with fail
        refine (bare_any _ l.length (size P) P (Nat.le_refl _) _ _ (HP0.out _ HX.out)).mono ?_
        rintro e wn ⟨rfl, hf⟩
        clear y0 y1 y2 y3 y4 y5 y6 y7
        have HX := Lib.hid (HX.out.trans hf)
        clear hf
        cases hbr : bare l.length P with
        | false =>
          go_wp2_with fail
          go_ret
          exact ⟨rfl, HF1.out.trans HX.out⟩
        | true =>
          have HBR := Lib.hid hbr
          clear hbr
          obtain ⟨y0, y1, y2, y3, y4, y5, y6, y7⟩ := HK.out _ HX.out
          go_wp2_with fail
          refine (subst_any l P _ _ wn _ _ (HL0.out wn HX.out) (HP0.out wn HX.out) (by have := HSP.out; omega) HSL.out).mono ?_
          obtain ⟨M, hM⟩ : ∃ M, M = subst l P := ⟨_, rfl⟩
          have HMQ := Lib.hid hM
          rw [← hM]
          clear hM
          clear y0 y1 y2 y3 y4 y5 y6 y7
          rintro e wq ⟨hf, dsn, rfl, hty⟩
          obtain ⟨pM, cM, rfl, _⟩ := hty.shape
          have HTM := Lib.hid (TyV.weak (N' := fun _ => True) hty (fun _ _ _ => trivial))
          clear hty
          have HX := Lib.hid (HX.out.trans hf)
          clear hf
          obtain ⟨y0, y1, y2, y3, y4, y5, y6, y7⟩ := HK.out _ HX.out
          have y8 : b < wq.heap.size + 1 := by omega
          have y9 : b + 1 < wq.heap.size + 1 := by omega
          go_wp2_with fail
          obtain ⟨bM, hbM⟩ : ∃ x, x = wq.heap.size := ⟨_, rfl⟩
          obtain ⟨w0, hw0⟩ : ∃ x, x = wq.alloc (.cells #[.int .i64 (kd M), .int .i64 (nm M), .slice pM (ar M).length cM] 24) := ⟨_, rfl⟩
          have HFM : Hid (Fr [] wq w0) := Lib.hid (by rw [hw0]; exact (Fr.refl [] _).alloc _)
          have HX := Lib.hid (HX.out.trans HFM.out)
          have HTM := Lib.hid (TyV.keep0 HTM.out HFM.out)
          clear y0 y1 y2 y3 y4 y5 y6 y7 y8 y9
          rw [← hw0]
          clear hw0 HFM
          obtain ⟨mk, hk1, hk2⟩ := Un.matched_made (l := l) HBR.out
          rw [← HMQ.out] at hk1
          have hkl : mk.length = l.length := Un.matched_len hk1
          have HK2 := Lib.hid hk2
          have hsM : size M ≤ 100000 := by
            have h1 := Un.size_subst (l := l) (c := 30) (Un.small_size HS1.out).1 (by omega) P
            rw [← HMQ.out] at h1
            have h2 := HSP.out
            omega
          have hmt := match_any _ P M l.length (by omega) (by have := HSP.out; omega) hsM HWP.out (by have := Un.pars_len P; have := HSP.out; omega) _ _ w0 (HP0.out w0 HX.out) HTM.out
          rw [hk1] at hmt
          refine hmt.mono ?_
          clear hmt hk1 hk2 hsM
          rintro e wz ⟨hf, vn, rfl, hvn⟩
          obtain ⟨pn, cn, rfl⟩ := hvn.shape
          rw [hkl] at hvn ⊢
          have HVN := Lib.hid (TysV.weak (N' := fun _ => True) hvn (fun _ _ _ => trivial))
          clear hvn
          have HX := Lib.hid (HX.out.trans hf)
          clear hf
          have he1 : ((l.length : Int) != (l.length : Int)) = false := by simp
          have he2 : (l.length != l.length) = false := by simp
          go_wp2_with fail
          go_loopw [13] (fun x wr => ∃ i : Nat, x = .int .i64 i ∧ i ≤ l.length ∧ Hid (Fr [] wz wr)) (fun x _ => l.length - (RowKit.intOf x).toNat)
          case atStart => exact ⟨0, rfl, Nat.zero_le _, Lib.hid (Fr.refl _ _)⟩
          case round =>
            obtain ⟨i, rfl, hi, HG⟩ := hrel
            by_cases hlt : i < l.length
            · have hd2 : decide ((i : Int) < (l.length : Int)) = true := by simp; omega
              have hd3 : decide (i < l.length) = true := by simpa using hlt
              have hd4 : decide (0 ≤ (i : Int)) = true := by simp
              obtain ⟨u, hu⟩ : ∃ u, l[i]? = some u := ⟨_, List.getElem?_eq_getElem hlt⟩
              have hki := HK2.out i hlt
              rw [hu] at hki
              simp only [Option.getD_some] at hki
              obtain ⟨bo, oo, rfl, hat⟩ : ∃ bo oo, pl = some ⟨bo, oo, none⟩ ∧ TysAt w (fun _ => True) l bo oo := by
                rcases HL.out.cases with ⟨h, _⟩ | ⟨_, bo, oo, cap, heq, _, _, hat⟩
                · rw [h] at hlt; simp at hlt
                · simp only [Value.slice.injEq] at heq
                  exact ⟨bo, oo, heq.1, hat⟩
              obtain ⟨bn, no, rfl, han⟩ : ∃ bn no, pn = some ⟨bn, no, none⟩ ∧ TysAt wz (fun _ => True) mk bn no := by
                rcases HVN.out.cases with ⟨h, _⟩ | ⟨_, bo, oo, cap, heq, _, _, hat⟩
                · rw [h] at hki; simp at hki
                · simp only [Value.slice.injEq] at heq
                  exact ⟨bo, oo, heq.1, hat⟩
              have hFz : Fr [] w wz := HF1.out.trans HX.out
              obtain ⟨pu, cu, ku, hbo, g0, g1, g2⟩ := hat.el hFz (by simp) hu
              have HN : Hid (Fr [] wz wr.drew) := Lib.hid (HG.out.trans ((Fr.refl [] _).drew))
              have HM : Hid (Fr [] wr wr.drew) := Lib.hid ((Fr.refl [] _).drew)
              have hPz := Lib.hid (fun wx (hf : Fr [] wz wx) => HP0.out wx (HX.out.trans hf))
              go_wp2_with fail
              cases hh : hasP (i : Int) P with
              | false =>
                rw [hh, if_neg (by simp)] at hki
                obtain ⟨pq, cq, kq, hbn, n0, n1, n2⟩ := han.el (Fr.refl [] wz) (by simp) hki
                rw [show kd Un.zero = 0 from rfl] at n0
                have HKV : Hid (∀ wx, Fr [] wz wx → wx.cell? ⟨b, 0, none⟩ = some (.int .i64 (kd P)) ∧ wx.cell? ⟨b, 1, none⟩ = some (.int .i64 (nm P)) ∧ wx.cell? ⟨b, 2, none⟩ = some (.slice pp (ar P).length cp) ∧ b < wx.heap.size ∧ wx.cell? ⟨bo, oo + i * 3, none⟩ = some (.int .i64 (kd u)) ∧ wx.cell? ⟨bo, oo + i * 3 + 1, none⟩ = some (.int .i64 (nm u)) ∧ wx.cell? ⟨bo, oo + i * 3 + 2, none⟩ = some (.slice pu (ar u).length cu) ∧ bo < wx.heap.size ∧ wx.cell? ⟨bn, no + i * 3, none⟩ = some (.int .i64 0) ∧ wx.cell? ⟨bn, no + i * 3 + 1, none⟩ = some (.int .i64 (nm Un.zero)) ∧ wx.cell? ⟨bn, no + i * 3 + 2, none⟩ = some (.slice pq (ar Un.zero).length cq) ∧ bn < wx.heap.size) := Lib.hid (fun wx hf => by
                  have hp := Blk.keep (X := []) HBP.out (HX.out.trans hf) (by simp)
                  exact ⟨hp.cell 0, hp.cell 1, hp.cell 2, hp.lt, (hf.cell hbo (by simp) _).trans g0, (hf.cell hbo (by simp) _).trans g1, (hf.cell hbo (by simp) _).trans g2, Nat.lt_of_lt_of_le hbo hf.size, (hf.cell hbn (by simp) _).trans n0, (hf.cell hbn (by simp) _).trans n1, (hf.cell hbn (by simp) _).trans n2, Nat.lt_of_lt_of_le hbn hf.size⟩)
                have HHS : Hid (∀ wx, Fr [] wz wx → Calls Try.prog 29 #[.agg #[.int .i64 (kd P), .int .i64 (nm P), .slice pp (ar P).length cp], .int .i64 i] wx (LookP false wx)) := Lib.hid (fun wx hf => by
                  have h1 := has_any _ i (size P) P (Nat.le_refl _) _ wx (hPz.out wx hf)
                  rwa [hh] at h1)
                clear hat han hki hh hu ku kq g0 g1 g2 n0 n1 n2 hbo hbn hFz
                obtain ⟨z0, z1, z2, z3, z4, z5, z6, z7, z8, z9, z10, z11⟩ := HKV.out _ HN.out
                have HKW : Hid (∀ wx, Fr [] wz wx → wx.cell? ⟨b, 0, none⟩ = some (.int .i64 (kd P)) ∧ wx.cell? ⟨b, 1, none⟩ = some (.int .i64 (nm P)) ∧ wx.cell? ⟨b, 2, none⟩ = some (.slice pp (ar P).length cp) ∧ b < wx.heap.size ∧ wx.cell? ⟨bn, no + i * 3, none⟩ = some (.int .i64 0) ∧ bn < wx.heap.size) := Lib.hid (fun wx hf => by obtain ⟨q0, q1, q2, q3, q4, q5, q6, q7, q8, q9, q10, q11⟩ := HKV.out wx hf; exact ⟨q0, q1, q2, q3, q8, q11⟩)
                clear z0 z1 z2 z3 z4 z5 z6 z7 z8 z9 z10 z11 HKV
                obtain ⟨z0, z1, z2, z3, z8, z11⟩ := HKW.out _ HN.out
                refine wp_region_any (by kernel_rfl) ?_
                change wpAny _ _ _ _ _ _ _ (World.drew _)
                all_goals (refine wpAny_take (i := 1) (v := .int .i64 i) rfl ?_ ?_ ?_ (fun _ _ _ h => h) (Or.inl ⟨by rfl, ?_⟩) ?_; (focus (decide +kernel)); (focus (decide +kernel)); (focus (decide +kernel)); (focus (intro w; go_simp; try with_reducible rfl)))
                all_goals (refine wpAny_ready (rs := [0]) ?_ (by simp) ?_; (focus (decide +kernel)); refine AllReady.cons rfl (fun K hK => ?_) AllReady.nil; go_simp; refine hK _ _ ?_; clear hK K)
                all_goals (refine wpAny_ready (rs := [2]) ?_ (by simp) ?_; (focus (decide +kernel)); refine AllReady.cons rfl (fun K hK => ?_) AllReady.nil; go_simp; go_at_call 29; (with_reducible refine (HHS.out _ HN.out).mono ?_); rintro e wn ⟨rfl, hf⟩; have HM := Lib.hid (HM.out.trans hf); have HN := Lib.hid (HN.out.trans hf); clear hf; obtain ⟨z0, z1, z2, z3, z8, z11⟩ := HKW.out _ HN.out; refine hK _ _ ?_; clear hK K)
                all_goals (refine wpAny_ready (rs := [3]) ?_ (by simp) ?_; (focus (decide +kernel)); refine AllReady.cons rfl (fun K hK => ?_) AllReady.nil; go_simp; refine hK _ _ ?_; clear hK K)
                all_goals (refine wpAny_take (i := 4) (v := undef) rfl ?_ ?_ ?_ (fun _ _ _ h => h) (Or.inr ⟨by rfl, rfl⟩) ?_; (focus (decide +kernel)); (focus (decide +kernel)); (focus (decide +kernel)))
                all_goals (refine wpAny_take (i := 5) (v := undef) rfl ?_ ?_ ?_ (fun _ _ _ h => h) (Or.inr ⟨by rfl, rfl⟩) ?_; (focus (decide +kernel)); (focus (decide +kernel)); (focus (decide +kernel)))
                all_goals (refine wpAny_take (i := 8) (v := undef) rfl ?_ ?_ ?_ (fun _ _ _ h => h) (Or.inr ⟨by rfl, rfl⟩) ?_; (focus (decide +kernel)); (focus (decide +kernel)); (focus (decide +kernel)))
                all_goals (refine wpAny_take (i := 9) (v := undef) rfl ?_ ?_ ?_ (fun _ _ _ h => h) (Or.inr ⟨by rfl, rfl⟩) ?_; (focus (decide +kernel)); (focus (decide +kernel)); (focus (decide +kernel)))
                all_goals (refine wpAny_take (i := 6) (v := undef) rfl ?_ ?_ ?_ (fun _ _ _ h => h) (Or.inr ⟨by rfl, rfl⟩) ?_; (focus (decide +kernel)); (focus (decide +kernel)); (focus (decide +kernel)))
                all_goals (refine wpAny_take (i := 10) (v := undef) rfl ?_ ?_ ?_ (fun _ _ _ h => h) (Or.inr ⟨by rfl, rfl⟩) ?_; (focus (decide +kernel)); (focus (decide +kernel)); (focus (decide +kernel)))
                all_goals (refine wpAny_ready (rs := [7, 11]) ?_ (by simp) ?_; (focus (decide +kernel)); refine AllReady.cons rfl (fun K hK => ?_) (AllReady.cons rfl (fun K hK => ?_) AllReady.nil) <;> (go_simp; refine hK _ _ ?_; clear hK K))
                all_goals (first | (refine wpAny_ready (rs := [7]) ?_ (by simp) ?_; (focus (decide +kernel)); refine AllReady.cons rfl (fun K hK => ?_) AllReady.nil; go_simp; refine hK _ _ ?_; clear hK K) | (refine wpAny_ready (rs := [11]) ?_ (by simp) ?_; (focus (decide +kernel)); refine AllReady.cons rfl (fun K hK => ?_) AllReady.nil; go_simp; refine hK _ _ ?_; clear hK K))
                all_goals (refine wpAny_ready (rs := [12]) ?_ (by simp) ?_; (focus (decide +kernel)); refine AllReady.cons rfl (fun K hK => ?_) AllReady.nil; go_simp; refine hK _ _ ?_; clear hK K)
                all_goals (refine wpAny_ready (rs := [13]) ?_ (by simp) ?_; (focus (decide +kernel)); refine AllReady.cons rfl (fun K hK => ?_) AllReady.nil; go_simp; refine hK _ _ ?_; clear hK K)
                all_goals (refine wpAny_ready (rs := [14]) ?_ (by simp) ?_; (focus (decide +kernel)); refine AllReady.cons rfl (fun K hK => ?_) AllReady.nil; go_simp; refine hK _ _ ?_; clear hK K)
                all_goals (refine wpAny_ready (rs := [15]) ?_ (by simp) ?_; (focus (decide +kernel)); refine AllReady.cons rfl (fun K hK => ?_) AllReady.nil; go_simp; refine hK _ _ ?_; clear hK K)
                all_goals (refine wpAny_take (i := 17) (v := .int .i64 i) rfl ?_ ?_ ?_ (fun _ _ _ h => h) (Or.inl ⟨by rfl, ?_⟩) ?_; (focus (decide +kernel)); (focus (decide +kernel)); (focus (decide +kernel)); (focus (intro w; go_simp; try with_reducible rfl)))
                all_goals (refine wpAny_ready (rs := [16]) ?_ (by simp) ?_; (focus (decide +kernel)); refine AllReady.cons rfl (fun K hK => ?_) AllReady.nil; go_simp; refine hK _ _ ?_; clear hK K)
                all_goals (refine wpAny_ready (rs := [18]) ?_ (by simp) ?_; (focus (decide +kernel)); refine AllReady.cons rfl (fun K hK => ?_) AllReady.nil; go_simp; go_at_call 29; (with_reducible refine (HHS.out _ HN.out).mono ?_); rintro e wn ⟨rfl, hf⟩; have HM := Lib.hid (HM.out.trans hf); have HN := Lib.hid (HN.out.trans hf); clear hf; obtain ⟨z0, z1, z2, z3, z8, z11⟩ := HKW.out _ HN.out; refine hK _ _ ?_; clear hK K)
                all_goals (refine wpAny_ready (rs := [19]) ?_ (by simp) ?_; (focus (decide +kernel)); refine AllReady.cons rfl (fun K hK => ?_) AllReady.nil; go_simp; refine hK _ _ ?_; clear hK K)
                all_goals (refine wpAny_ready (rs := [20]) ?_ (by simp) ?_; (focus (decide +kernel)); refine AllReady.cons rfl (fun K hK => ?_) AllReady.nil; go_simp; refine hK _ _ ?_; clear hK K)
                all_goals (refine wpAny_take (i := 21) (v := .slice (some ⟨bn, no, none⟩) l.length cn) rfl ?_ ?_ ?_ (fun _ _ _ h => h) (Or.inl ⟨by rfl, ?_⟩) ?_; (focus (decide +kernel)); (focus (decide +kernel)); (focus (decide +kernel)); (focus (intro w; go_simp; try with_reducible rfl)))
                all_goals (refine wpAny_take (i := 22) (v := .int .i64 i) rfl ?_ ?_ ?_ (fun _ _ _ h => h) (Or.inl ⟨by rfl, ?_⟩) ?_; (focus (decide +kernel)); (focus (decide +kernel)); (focus (decide +kernel)); (focus (intro w; go_simp; try with_reducible rfl)))
                all_goals (refine wpAny_ready (rs := [23]) ?_ (by simp) ?_; (focus (decide +kernel)); refine AllReady.cons rfl (fun K hK => ?_) AllReady.nil; go_simp; refine hK _ _ ?_; clear hK K)
                all_goals (refine wpAny_ready (rs := [24]) ?_ (by simp) ?_; (focus (decide +kernel)); refine AllReady.cons rfl (fun K hK => ?_) AllReady.nil; go_simp; refine hK _ _ ?_; clear hK K)
                all_goals (refine wpAny_ready (rs := [25]) ?_ (by simp) ?_; (focus (decide +kernel)); refine AllReady.cons rfl (fun K hK => ?_) AllReady.nil; go_simp; refine hK _ _ ?_; clear hK K)
                all_goals (refine wpAny_ready (rs := [26]) ?_ (by simp) ?_; (focus (decide +kernel)); refine AllReady.cons rfl (fun K hK => ?_) AllReady.nil; go_simp; refine hK _ _ ?_; clear hK K)
                all_goals (refine wpAny_ready (rs := [27]) ?_ (by simp) ?_; (focus (decide +kernel)); refine AllReady.cons rfl (fun K hK => ?_) AllReady.nil; go_simp; refine hK _ _ ?_; clear hK K)
                all_goals (refine wpAny_ready (rs := [28]) ?_ (by simp) ?_; (focus (decide +kernel)); refine AllReady.cons rfl (fun K hK => ?_) AllReady.nil; go_simp; refine hK _ _ ?_; clear hK K)
                all_goals (refine wpAny_done (by decide +kernel) ?_ _)
                all_goals (try go_wp2_with fail)
                all_goals
                  go_roundw
                  case rel => exact ⟨i + 1, by go_num, by omega, Lib.hid (HG.out.trans HM.out)⟩
                  case measure => simp [RowKit.intOf]; omega
              | true =>
                rw [hh, if_pos rfl] at hki
                obtain ⟨pq, cq, kq, hbn, n0, n1, n2⟩ := han.el (Fr.refl [] wz) (by simp) hki
                have HKV : Hid (∀ wx, Fr [] wz wx → wx.cell? ⟨b, 0, none⟩ = some (.int .i64 (kd P)) ∧ wx.cell? ⟨b, 1, none⟩ = some (.int .i64 (nm P)) ∧ wx.cell? ⟨b, 2, none⟩ = some (.slice pp (ar P).length cp) ∧ b < wx.heap.size ∧ wx.cell? ⟨bo, oo + i * 3, none⟩ = some (.int .i64 (kd u)) ∧ wx.cell? ⟨bo, oo + i * 3 + 1, none⟩ = some (.int .i64 (nm u)) ∧ wx.cell? ⟨bo, oo + i * 3 + 2, none⟩ = some (.slice pu (ar u).length cu) ∧ bo < wx.heap.size ∧ wx.cell? ⟨bn, no + i * 3, none⟩ = some (.int .i64 (kd u)) ∧ wx.cell? ⟨bn, no + i * 3 + 1, none⟩ = some (.int .i64 (nm u)) ∧ wx.cell? ⟨bn, no + i * 3 + 2, none⟩ = some (.slice pq (ar u).length cq) ∧ bn < wx.heap.size) := Lib.hid (fun wx hf => by
                  have hp := Blk.keep (X := []) HBP.out (HX.out.trans hf) (by simp)
                  exact ⟨hp.cell 0, hp.cell 1, hp.cell 2, hp.lt, (hf.cell hbo (by simp) _).trans g0, (hf.cell hbo (by simp) _).trans g1, (hf.cell hbo (by simp) _).trans g2, Nat.lt_of_lt_of_le hbo hf.size, (hf.cell hbn (by simp) _).trans n0, (hf.cell hbn (by simp) _).trans n1, (hf.cell hbn (by simp) _).trans n2, Nat.lt_of_lt_of_le hbn hf.size⟩)
                have HHS : Hid (∀ wx, Fr [] wz wx → Calls Try.prog 29 #[.agg #[.int .i64 (kd P), .int .i64 (nm P), .slice pp (ar P).length cp], .int .i64 i] wx (LookP true wx)) := Lib.hid (fun wx hf => by
                  have h1 := has_any _ i (size P) P (Nat.le_refl _) _ wx (hPz.out wx hf)
                  rwa [hh] at h1)
                have HSE : Hid (∀ wx, Fr [] wz wx → Calls Try.prog 16 #[.agg #[.int .i64 (kd u), .int .i64 (nm u), .slice pq (ar u).length cq], .agg #[.int .i64 (kd u), .int .i64 (nm u), .slice pu (ar u).length cu]] wx (LookP true wx)) := Lib.hid (fun wx hf => HSM.out wx u _ _ (TyV.keep0 kq hf) (TyV.keep0 ku hf))
                clear hat han hki hh hu ku kq g0 g1 g2 n0 n1 n2 hbo hbn hFz
                obtain ⟨z0, z1, z2, z3, z4, z5, z6, z7, z8, z9, z10, z11⟩ := HKV.out _ HN.out
                refine wp_region_any (by kernel_rfl) ?_
                change wpAny _ _ _ _ _ _ _ (World.drew _)
                all_goals (refine wpAny_take (i := 1) (v := .int .i64 i) rfl ?_ ?_ ?_ (fun _ _ _ h => h) (Or.inl ⟨by rfl, ?_⟩) ?_; (focus (decide +kernel)); (focus (decide +kernel)); (focus (decide +kernel)); (focus (intro w; go_simp; try with_reducible rfl)))
                all_goals (refine wpAny_ready (rs := [0]) ?_ (by simp) ?_; (focus (decide +kernel)); refine AllReady.cons rfl (fun K hK => ?_) AllReady.nil; go_simp; refine hK _ _ ?_; clear hK K)
                all_goals (refine wpAny_ready (rs := [2]) ?_ (by simp) ?_; (focus (decide +kernel)); refine AllReady.cons rfl (fun K hK => ?_) AllReady.nil; go_simp; go_at_call 29; (with_reducible refine (HHS.out _ HN.out).mono ?_); rintro e wn ⟨rfl, hf⟩; have HM := Lib.hid (HM.out.trans hf); have HN := Lib.hid (HN.out.trans hf); clear hf; obtain ⟨z0, z1, z2, z3, z4, z5, z6, z7, z8, z9, z10, z11⟩ := HKV.out _ HN.out; refine hK _ _ ?_; clear hK K)
                all_goals (refine wpAny_ready (rs := [3]) ?_ (by simp) ?_; (focus (decide +kernel)); refine AllReady.cons rfl (fun K hK => ?_) AllReady.nil; go_simp; refine hK _ _ ?_; clear hK K)
                all_goals (refine wpAny_take (i := 4) (v := .slice (some ⟨bn, no, none⟩) l.length cn) rfl ?_ ?_ ?_ (fun _ _ _ h => h) (Or.inl ⟨by rfl, ?_⟩) ?_; (focus (decide +kernel)); (focus (decide +kernel)); (focus (decide +kernel)); (focus (intro w; go_simp; try with_reducible rfl)))
                all_goals (refine wpAny_take (i := 5) (v := .int .i64 i) rfl ?_ ?_ ?_ (fun _ _ _ h => h) (Or.inl ⟨by rfl, ?_⟩) ?_; (focus (decide +kernel)); (focus (decide +kernel)); (focus (decide +kernel)); (focus (intro w; go_simp; try with_reducible rfl)))
                all_goals (refine wpAny_take (i := 8) (v := .slice (some ⟨bo, oo, none⟩) l.length cl) rfl ?_ ?_ ?_ (fun _ _ _ h => h) (Or.inl ⟨by rfl, ?_⟩) ?_; (focus (decide +kernel)); (focus (decide +kernel)); (focus (decide +kernel)); (focus (intro w; go_simp; try with_reducible rfl)))
                all_goals (refine wpAny_take (i := 9) (v := .int .i64 i) rfl ?_ ?_ ?_ (fun _ _ _ h => h) (Or.inl ⟨by rfl, ?_⟩) ?_; (focus (decide +kernel)); (focus (decide +kernel)); (focus (decide +kernel)); (focus (intro w; go_simp; try with_reducible rfl)))
                all_goals (refine wpAny_take (i := 6) (v := .pointer (some ⟨bn, no + i * 3, none⟩)) rfl ?_ ?_ ?_ (fun _ _ _ h => h) (Or.inl ⟨by rfl, ?_⟩) ?_; (focus (decide +kernel)); (focus (decide +kernel)); (focus (decide +kernel)); (focus (intro w; go_simp; try with_reducible rfl)))
                all_goals (refine wpAny_take (i := 10) (v := .pointer (some ⟨bo, oo + i * 3, none⟩)) rfl ?_ ?_ ?_ (fun _ _ _ h => h) (Or.inl ⟨by rfl, ?_⟩) ?_; (focus (decide +kernel)); (focus (decide +kernel)); (focus (decide +kernel)); (focus (intro w; go_simp; try with_reducible rfl)))
                all_goals (refine wpAny_ready (rs := [7, 11]) ?_ (by simp) ?_; (focus (decide +kernel)); refine AllReady.cons rfl (fun K hK => ?_) (AllReady.cons rfl (fun K hK => ?_) AllReady.nil) <;> (go_simp; refine hK _ _ ?_; clear hK K))
                all_goals (first | (refine wpAny_ready (rs := [7]) ?_ (by simp) ?_; (focus (decide +kernel)); refine AllReady.cons rfl (fun K hK => ?_) AllReady.nil; go_simp; refine hK _ _ ?_; clear hK K) | (refine wpAny_ready (rs := [11]) ?_ (by simp) ?_; (focus (decide +kernel)); refine AllReady.cons rfl (fun K hK => ?_) AllReady.nil; go_simp; refine hK _ _ ?_; clear hK K))
                all_goals (refine wpAny_ready (rs := [12]) ?_ (by simp) ?_; (focus (decide +kernel)); refine AllReady.cons rfl (fun K hK => ?_) AllReady.nil; go_simp; go_at_call 16; (with_reducible refine (HSE.out _ HN.out).mono ?_); rintro e wn ⟨rfl, hf⟩; have HM := Lib.hid (HM.out.trans hf); have HN := Lib.hid (HN.out.trans hf); clear hf; obtain ⟨z0, z1, z2, z3, z4, z5, z6, z7, z8, z9, z10, z11⟩ := HKV.out _ HN.out; refine hK _ _ ?_; clear hK K)
                all_goals (refine wpAny_ready (rs := [13]) ?_ (by simp) ?_; (focus (decide +kernel)); refine AllReady.cons rfl (fun K hK => ?_) AllReady.nil; go_simp; refine hK _ _ ?_; clear hK K)
                all_goals (refine wpAny_ready (rs := [14]) ?_ (by simp) ?_; (focus (decide +kernel)); refine AllReady.cons rfl (fun K hK => ?_) AllReady.nil; go_simp; refine hK _ _ ?_; clear hK K)
                all_goals (refine wpAny_ready (rs := [15]) ?_ (by simp) ?_; (focus (decide +kernel)); refine AllReady.cons rfl (fun K hK => ?_) AllReady.nil; go_simp; refine hK _ _ ?_; clear hK K)
                all_goals (refine wpAny_take (i := 17) (v := .int .i64 i) rfl ?_ ?_ ?_ (fun _ _ _ h => h) (Or.inl ⟨by rfl, ?_⟩) ?_; (focus (decide +kernel)); (focus (decide +kernel)); (focus (decide +kernel)); (focus (intro w; go_simp; try with_reducible rfl)))
                all_goals (refine wpAny_ready (rs := [16]) ?_ (by simp) ?_; (focus (decide +kernel)); refine AllReady.cons rfl (fun K hK => ?_) AllReady.nil; go_simp; refine hK _ _ ?_; clear hK K)
                all_goals (refine wpAny_ready (rs := [18]) ?_ (by simp) ?_; (focus (decide +kernel)); refine AllReady.cons rfl (fun K hK => ?_) AllReady.nil; go_simp; go_at_call 29; (with_reducible refine (HHS.out _ HN.out).mono ?_); rintro e wn ⟨rfl, hf⟩; have HM := Lib.hid (HM.out.trans hf); have HN := Lib.hid (HN.out.trans hf); clear hf; obtain ⟨z0, z1, z2, z3, z4, z5, z6, z7, z8, z9, z10, z11⟩ := HKV.out _ HN.out; refine hK _ _ ?_; clear hK K)
                all_goals (refine wpAny_ready (rs := [19]) ?_ (by simp) ?_; (focus (decide +kernel)); refine AllReady.cons rfl (fun K hK => ?_) AllReady.nil; go_simp; refine hK _ _ ?_; clear hK K)
                all_goals (refine wpAny_ready (rs := [20]) ?_ (by simp) ?_; (focus (decide +kernel)); refine AllReady.cons rfl (fun K hK => ?_) AllReady.nil; go_simp; refine hK _ _ ?_; clear hK K)
                all_goals (refine wpAny_take (i := 21) (v := undef) rfl ?_ ?_ ?_ (fun _ _ _ h => h) (Or.inr ⟨by rfl, rfl⟩) ?_; (focus (decide +kernel)); (focus (decide +kernel)); (focus (decide +kernel)))
                all_goals (refine wpAny_take (i := 22) (v := undef) rfl ?_ ?_ ?_ (fun _ _ _ h => h) (Or.inr ⟨by rfl, rfl⟩) ?_; (focus (decide +kernel)); (focus (decide +kernel)); (focus (decide +kernel)))
                all_goals (refine wpAny_take (i := 23) (v := undef) rfl ?_ ?_ ?_ (fun _ _ _ h => h) (Or.inr ⟨by rfl, rfl⟩) ?_; (focus (decide +kernel)); (focus (decide +kernel)); (focus (decide +kernel)))
                all_goals (refine wpAny_take (i := 24) (v := undef) rfl ?_ ?_ ?_ (fun _ _ _ h => h) (Or.inr ⟨by rfl, rfl⟩) ?_; (focus (decide +kernel)); (focus (decide +kernel)); (focus (decide +kernel)))
                all_goals (refine wpAny_ready (rs := [25]) ?_ (by simp) ?_; (focus (decide +kernel)); refine AllReady.cons rfl (fun K hK => ?_) AllReady.nil; go_simp; refine hK _ _ ?_; clear hK K)
                all_goals (refine wpAny_ready (rs := [26]) ?_ (by simp) ?_; (focus (decide +kernel)); refine AllReady.cons rfl (fun K hK => ?_) AllReady.nil; go_simp; refine hK _ _ ?_; clear hK K)
                all_goals (refine wpAny_ready (rs := [27]) ?_ (by simp) ?_; (focus (decide +kernel)); refine AllReady.cons rfl (fun K hK => ?_) AllReady.nil; go_simp; refine hK _ _ ?_; clear hK K)
                all_goals (refine wpAny_ready (rs := [28]) ?_ (by simp) ?_; (focus (decide +kernel)); refine AllReady.cons rfl (fun K hK => ?_) AllReady.nil; go_simp; refine hK _ _ ?_; clear hK K)
                all_goals (refine wpAny_done (by decide +kernel) ?_ _)
                all_goals (try go_wp2_with fail)
                all_goals
                  go_roundw
                  case rel => exact ⟨i + 1, by go_num, by omega, Lib.hid (HG.out.trans HM.out)⟩
                  case measure => simp [RowKit.intOf]; omega
            · have hd2 : decide ((i : Int) < (l.length : Int)) = false := by simp; omega
              have hd3 : decide (i < l.length) = false := by simpa using hlt
              go_wp2_with fail
              go_ret
              exact ⟨rfl, HF1.out.trans (HX.out.trans HG.out)⟩
end Go.Proofs.Ytkhbgdhgjbnhpaa
