/-
  The walk of UnifyParameters.
-/
import Derived.Test.YtjpbhmcbafidfaaU43
import Derived.Test.YtjpbhmcbafidfaaU14
import Derived.Test.YtjpbhmcbafidfaaU11
set_option linter.unusedVariables false
set_option linter.unusedSimpArgs false
set_option linter.unusedSectionVars false
namespace Go.Proofs.Ytjpbhmcbafidfaa
open Go.RowKit Go.Lib
open Un (kd nm ar size sizes same sames small valid subst stored depth par)

/-- the boxed program and the boxed type -/
def PtC (b : Nat) (cs : Array Value) (w : World) : Prop := Blk w b 32 cs
theorem small_one (t : Ty) (h : small [t] = true) : size t ≤ 30 := (Un.small_size h).1 t (by simp)
set_option maxRecDepth 100000 in
set_option maxHeartbeats 6400000 in
theorem params_any (ds : List Int) (one two : List Ty) (t : Ty) (pr : Int) (pcs cs : List Value) (v1 v2 : Value) (w : World) (hp : ProgV w (fun _ => True) ds pcs) (h1 : TysV w (fun _ => True) one v1) (h2 : TysV w (fun _ => True) two v2) (ht : TyV w (fun _ => True) t cs) (hwp : (Lit.int .i64 pr).wf = true) :
    Calls Try.prog 4 #[.agg pcs.toArray, v1, v2, .agg cs.toArray, .int .i64 pr] w (LookP true w) := by
  have HP := Lib.hid hp
  have H1 := Lib.hid h1
  have H2 := Lib.hid h2
  have HT := Lib.hid ht
  have HWP := Lib.hid hwp
  obtain ⟨p0, n0, c0, p1, n1, c1, dv, p3, n3, c3, p4, n4, c4, p5, n5, c5, p6, n6, c6, mn, rfl, hdv⟩ := hp
  obtain ⟨pd, cd, rfl⟩ : ∃ p c, dv = .slice p ds.length c := by
    unfold DatasV at hdv
    rcases InN.slice hdv with ⟨p, c, rfl, h0⟩ | ⟨b, o, cap, xs, rfl, _⟩
    · exact ⟨p, c, by rw [h0]⟩
    · exact ⟨_, _, rfl⟩
  have hdl : ds.length ≤ maxLen := InN.slLen hdv
  unfold maxLen at hdl
  obtain ⟨pt, ct, rfl, _⟩ := ht.shape
  obtain ⟨q1, k1, rfl⟩ := h1.shape
  obtain ⟨q2, k2, rfl⟩ := h2.shape
  have hl1 := h1.len
  have hl2 := h2.len
  unfold maxLen at hl1 hl2
  obtain ⟨b, hb⟩ : ∃ b, b = w.heap.size := ⟨_, rfl⟩
  obtain ⟨w1, hw1⟩ : ∃ w1, w1 = (w.alloc (.cells #[.slice p0 n0 c0, .slice p1 n1 c1, .slice pd ds.length cd, .slice p3 n3 c3, .slice p4 n4 c4, .slice p5 n5 c5, .slice p6 n6 c6, .int .i64 mn] 32)).alloc (.cells #[.int .i64 (kd t), .int .i64 (nm t), .slice pt (ar t).length ct] 24) := ⟨_, rfl⟩
  have HF1 : Hid (Fr [] w w1) := Lib.hid (by rw [hw1]; exact ((Fr.refl _ _).alloc _).alloc _)
  have HBP : Hid (Blk w1 b 32 #[.slice p0 n0 c0, .slice p1 n1 c1, .slice pd ds.length cd, .slice p3 n3 c3, .slice p4 n4 c4, .slice p5 n5 c5, .slice p6 n6 c6, .int .i64 mn]) := Lib.hid (by rw [hw1, hb]; exact (Blk.new _ _ _).alloc _)
  have HBT : Hid (Blk w1 (b + 1) 24 #[.int .i64 (kd t), .int .i64 (nm t), .slice pt (ar t).length ct]) := Lib.hid (by rw [hw1, hb]; exact Blk.new_at (by simp))
  have HBW : Hid (w.heap.size = b) := Lib.hid hb.symm
  clear h1 h2 ht hdv hwp
  go_enter Try.func4, Try.ntmps4
  go_wp2_with fail
  rw [← hb]
  rw [← hw1]
  clear hw1 hb
  refine (head_any w1).mono ?_
  rintro e wn ⟨rfl, hf⟩
  have HX := Lib.hid hf
  clear hf
  go_wp2_with fail
  refine (small_any _ one _ wn (TysV.keep0 (TysV.keep0 H1.out HF1.out) HX.out)).mono ?_
  rintro e wn ⟨rfl, hf⟩
  have HX := Lib.hid (HX.out.trans hf)
  clear hf
  cases hs1 : small one with
  | false =>
    go_wp2_with fail
    go_ret
    exact ⟨rfl, HF1.out.trans HX.out⟩
  | true =>
    have HS1 := Lib.hid hs1
    clear hs1
    go_wp2_with fail
    refine (small_any _ two _ wn (TysV.keep0 (TysV.keep0 H2.out HF1.out) HX.out)).mono ?_
    rintro e wn ⟨rfl, hf⟩
    have HX := Lib.hid (HX.out.trans hf)
    clear hf
    cases hs2 : small two with
    | false =>
      go_wp2_with fail
      go_ret
      exact ⟨rfl, HF1.out.trans HX.out⟩
    | true =>
      have HS2 := Lib.hid hs2
      clear hs2
      have d0 : wn.cell? ⟨b + 1, 0, none⟩ = some (.int .i64 (kd t)) := (Blk.keep (X := []) HBT.out HX.out (by simp)).cell 0
      have d1 : wn.cell? ⟨b + 1, 1, none⟩ = some (.int .i64 (nm t)) := (Blk.keep (X := []) HBT.out HX.out (by simp)).cell 1
      have d2 : wn.cell? ⟨b + 1, 2, none⟩ = some (.slice pt (ar t).length ct) := (Blk.keep (X := []) HBT.out HX.out (by simp)).cell 2
      have dl : b + 1 < wn.heap.size := (Blk.keep (X := []) HBT.out HX.out (by simp)).lt
      go_wp2_with fail
      obtain ⟨wm, hwm⟩ : ∃ x, x = wn.alloc (.cells #[.int .i64 (kd t), .int .i64 (nm t), .slice pt (ar t).length ct] 24) := ⟨_, rfl⟩
      have HFM : Hid (Fr [] wn wm) := Lib.hid (by rw [hwm]; exact (Fr.refl [] _).alloc _)
      have HXM := Lib.hid (HX.out.trans HFM.out)
      have hlt : TysV wm (fun _ => True) [t] (.slice (some ⟨wn.heap.size, 0, none⟩) 1 1) := newTys (l := [t]) (by simp) trivial (by rw [hwm]; exact Blk.new _ _ _) (by rw [rowsQ_one]; exact TyV.keep0 (TyV.keep0 HT.out HF1.out) HXM.out)
      rw [← hwm]
      clear hwm d0 d1 d2 dl
      refine (small_any _ [t] _ wm hlt).mono ?_
      rintro e wo ⟨rfl, hf⟩
      have HX := Lib.hid (HXM.out.trans hf)
      clear hf hlt HFM HXM
      cases hs3 : small [t] with
      | false =>
        go_wp2_with fail
        go_ret
        exact ⟨rfl, HF1.out.trans HX.out⟩
      | true =>
        have HS3 := Lib.hid (small_one t hs3)
        clear hs3
        have d0 : wo.cell? ⟨b, 2, none⟩ = some (.slice pd ds.length cd) := (Blk.keep (X := []) HBP.out HX.out (by simp)).cell 2
        have dl : b < wo.heap.size := (Blk.keep (X := []) HBP.out HX.out (by simp)).lt
        by_cases hds : 20 < ds.length
        · have hd1 : decide ((20 : Int) < (ds.length : Int)) = true := by simp; omega
          have hd2 : decide (20 < ds.length) = true := by simpa using hds
          go_wp2_with fail
          go_ret
          exact ⟨rfl, HF1.out.trans HX.out⟩
        have hd1 : decide ((20 : Int) < (ds.length : Int)) = false := by simp; omega
        have hd2 : decide (20 < ds.length) = false := by simpa using hds
        go_wp2_with fail
        clear d0 dl hd1 hd2
        refine (p_any 0 _).mono ?_
        rintro e wn ⟨rfl, hf⟩
        have HX := Lib.hid (HX.out.trans hf)
        clear hf
        go_wp2_with fail
        refine (p_any 1 _).mono ?_
        rintro e wn ⟨rfl, hf⟩
        have HX := Lib.hid (HX.out.trans hf)
        clear hf
        go_wp2_with fail
        refine (p_any 2 _).mono ?_
        rintro e wn ⟨rfl, hf⟩
        have HX := Lib.hid (HX.out.trans hf)
        clear hf
        go_wp2_with fail
        refine (p_any 3 _).mono ?_
        rintro e wn ⟨rfl, hf⟩
        have HX := Lib.hid (HX.out.trans hf)
        clear hf
        go_wp2_with fail
        obtain ⟨wS, hwS⟩ : ∃ x, x = wn.alloc (.cells #[.int .i64 5, .int .i64 0, .slice none 0 0, .int .i64 5, .int .i64 1, .slice none 0 0, .int .i64 5, .int .i64 2, .slice none 0 0, .int .i64 5, .int .i64 3, .slice none 0 0] 24) := ⟨_, rfl⟩
        have HPS : Hid (TysV wS (fun _ => True) Un.ps (.slice (some ⟨wn.heap.size, 0, none⟩) 4 4)) := Lib.hid (newTys (l := Un.ps) (by decide) trivial (by rw [hwS]; exact Blk.new _ _ _) (InN.app (leafV 5 0 _) (InN.app (cs := [.int .i64 5, .int .i64 1, .slice none 0 0]) (leafV 5 1 _) (InN.app (cs := [.int .i64 5, .int .i64 2, .slice none 0 0]) (leafV 5 2 _) (InN.app (cs := [.int .i64 5, .int .i64 3, .slice none 0 0]) (ds := []) (leafV 5 3 _) (InN.mk_nil _ _))))))
        have HX := Lib.hid (HX.out.trans (by rw [hwS]; exact (Fr.refl [] _).alloc _ : Fr [] _ wS))
        have HPS0 : Hid (∀ wx, Fr [] w1 wx → ProgV wx (fun _ => True) ds #[.slice p0 n0 c0, .slice p1 n1 c1, .slice pd ds.length cd, .slice p3 n3 c3, .slice p4 n4 c4, .slice p5 n5 c5, .slice p6 n6 c6, .int .i64 mn].toList) := Lib.hid (fun wx hf => (HP.out.keep0 HF1.out).keep0 hf)
        have HT0 : Hid (∀ wx, Fr [] w1 wx → TyV wx (fun _ => True) t [.int .i64 (kd t), .int .i64 (nm t), .slice pt (ar t).length ct]) := Lib.hid (fun wx hf => TyV.keep0 (TyV.keep0 HT.out HF1.out) hf)
        have HSM : Hid (∀ (wx : World) (x : Ty) (cs ds : List Value), TyV wx (fun _ => True) x cs → TyV wx (fun _ => True) x ds → Calls Try.prog 16 #[.agg cs.toArray, .agg ds.toArray] wx (LookP true wx)) := Lib.hid (fun wx x cs ds h h' => by
          have h1 := rsame_any _ _ (size x) x (Nat.le_refl _) x cs ds wx h h'
          rwa [show same x x = true from (Un.same_eq x x).2 rfl] at h1)
        rw [← hwS]
        clear hwS
        go_cut [57] (fun s57 wx => s57 = .bool false ∧ Fr [] w1 wx)
        case first =>
          cases hv4 : valid ds 4 t with
          | false =>
            have HVD : Hid (∀ wx, Fr [] w1 wx → Calls Try.prog 21 #[.agg #[.slice p0 n0 c0, .slice p1 n1 c1, .slice pd ds.length cd, .slice p3 n3 c3, .slice p4 n4 c4, .slice p5 n5 c5, .slice p6 n6 c6, .int .i64 mn], .int .i64 4, .agg #[.int .i64 (kd t), .int .i64 (nm t), .slice pt (ar t).length ct]] wx (LookP false wx)) := Lib.hid (fun wx hf => by
              have h1 := valid_any ds (4) _ _ _ _ t wx (HPS0.out wx hf) (HT0.out wx hf)
              rwa [hv4] at h1)
            clear hv4
            have HN : Hid (Fr [] w1 wS.drew) := Lib.hid (HX.out.trans ((Fr.refl [] _).drew))
            have HK : Hid (∀ wx, Fr [] w1 wx → wx.cell? ⟨b, 0, none⟩ = some (.slice p0 n0 c0) ∧ wx.cell? ⟨b, 1, none⟩ = some (.slice p1 n1 c1) ∧ wx.cell? ⟨b, 2, none⟩ = some (.slice pd ds.length cd) ∧ wx.cell? ⟨b, 3, none⟩ = some (.slice p3 n3 c3) ∧ wx.cell? ⟨b, 4, none⟩ = some (.slice p4 n4 c4) ∧ wx.cell? ⟨b, 5, none⟩ = some (.slice p5 n5 c5) ∧ wx.cell? ⟨b, 6, none⟩ = some (.slice p6 n6 c6) ∧ wx.cell? ⟨b, 7, none⟩ = some (.int .i64 mn) ∧ wx.cell? ⟨b + 1, 0, none⟩ = some (.int .i64 (kd t)) ∧ wx.cell? ⟨b + 1, 1, none⟩ = some (.int .i64 (nm t)) ∧ wx.cell? ⟨b + 1, 2, none⟩ = some (.slice pt (ar t).length ct) ∧ b < wx.heap.size ∧ b + 1 < wx.heap.size) := Lib.hid (fun wx hf => ⟨(Blk.keep (X := []) HBP.out hf (by simp)).cell 0, (Blk.keep (X := []) HBP.out hf (by simp)).cell 1, (Blk.keep (X := []) HBP.out hf (by simp)).cell 2, (Blk.keep (X := []) HBP.out hf (by simp)).cell 3, (Blk.keep (X := []) HBP.out hf (by simp)).cell 4, (Blk.keep (X := []) HBP.out hf (by simp)).cell 5, (Blk.keep (X := []) HBP.out hf (by simp)).cell 6, (Blk.keep (X := []) HBP.out hf (by simp)).cell 7, (Blk.keep (X := []) HBT.out hf (by simp)).cell 0, (Blk.keep (X := []) HBT.out hf (by simp)).cell 1, (Blk.keep (X := []) HBT.out hf (by simp)).cell 2, (Blk.keep (X := []) HBP.out hf (by simp)).lt, (Blk.keep (X := []) HBT.out hf (by simp)).lt⟩)
            obtain ⟨y0, y1, y2, y3, y4, y5, y6, y7, y8, y9, y10, yl11, yl12⟩ : wS.drew.cell? ⟨b, 0, none⟩ = some (.slice p0 n0 c0) ∧ wS.drew.cell? ⟨b, 1, none⟩ = some (.slice p1 n1 c1) ∧ wS.drew.cell? ⟨b, 2, none⟩ = some (.slice pd ds.length cd) ∧ wS.drew.cell? ⟨b, 3, none⟩ = some (.slice p3 n3 c3) ∧ wS.drew.cell? ⟨b, 4, none⟩ = some (.slice p4 n4 c4) ∧ wS.drew.cell? ⟨b, 5, none⟩ = some (.slice p5 n5 c5) ∧ wS.drew.cell? ⟨b, 6, none⟩ = some (.slice p6 n6 c6) ∧ wS.drew.cell? ⟨b, 7, none⟩ = some (.int .i64 mn) ∧ wS.drew.cell? ⟨b + 1, 0, none⟩ = some (.int .i64 (kd t)) ∧ wS.drew.cell? ⟨b + 1, 1, none⟩ = some (.int .i64 (nm t)) ∧ wS.drew.cell? ⟨b + 1, 2, none⟩ = some (.slice pt (ar t).length ct) ∧ b < wS.drew.heap.size ∧ b + 1 < wS.drew.heap.size := HK.out _ HN.out
            first | (go_region_law (first | (go_simp; (go_at_call 21; (with_reducible refine (HVD.out _ HN.out).mono ?_); rintro e wn ⟨rfl, hf⟩; (try have T1 := Lib.hid (TyV.keep0 T1.out hf)); (try have T2 := Lib.hid (TyV.keep0 T2.out hf)); have HN := Lib.hid (HN.out.trans hf); clear hf)))) | fail
            all_goals (try go_wp2_with fail)
            all_goals (go_meet; exact ⟨rfl, HN.out⟩)
          | true =>
            have HVD : Hid (∀ wx, Fr [] w1 wx → Calls Try.prog 21 #[.agg #[.slice p0 n0 c0, .slice p1 n1 c1, .slice pd ds.length cd, .slice p3 n3 c3, .slice p4 n4 c4, .slice p5 n5 c5, .slice p6 n6 c6, .int .i64 mn], .int .i64 4, .agg #[.int .i64 (kd t), .int .i64 (nm t), .slice pt (ar t).length ct]] wx (LookP true wx)) := Lib.hid (fun wx hf => by
              have h1 := valid_any ds (4) _ _ _ _ t wx (HPS0.out wx hf) (HT0.out wx hf)
              rwa [hv4] at h1)
            have hse : subst Un.ps t = t := by
              unfold valid at hv4
              rw [Bool.and_eq_true] at hv4
              exact Un.subst_self t hv4.2
            have HSU : Hid (∀ wx, Fr [] wS wx → Fr [] w1 wx → Calls Try.prog 17 #[.slice (some ⟨wn.heap.size, 0, none⟩) 4 4, .agg #[.int .i64 (kd t), .int .i64 (nm t), .slice pt (ar t).length ct]] wx (NewP t wx)) := Lib.hid (fun wx hg hf => by
              have h1 := subst_any Un.ps t _ _ wx _ _ (TysV.keep0 HPS.out hg) (HT0.out wx hf) (by have := HS3.out; omega) (fun u hu => by simp only [Un.ps, List.mem_cons, List.not_mem_nil, or_false] at hu; rcases hu with rfl | rfl | rfl | rfl <;> decide +kernel)
              rwa [hse] at h1)
            clear hv4 hse
            have HN : Hid (Fr [] w1 wS.drew) := Lib.hid (HX.out.trans ((Fr.refl [] _).drew))
            have HK : Hid (∀ wx, Fr [] w1 wx → wx.cell? ⟨b, 0, none⟩ = some (.slice p0 n0 c0) ∧ wx.cell? ⟨b, 1, none⟩ = some (.slice p1 n1 c1) ∧ wx.cell? ⟨b, 2, none⟩ = some (.slice pd ds.length cd) ∧ wx.cell? ⟨b, 3, none⟩ = some (.slice p3 n3 c3) ∧ wx.cell? ⟨b, 4, none⟩ = some (.slice p4 n4 c4) ∧ wx.cell? ⟨b, 5, none⟩ = some (.slice p5 n5 c5) ∧ wx.cell? ⟨b, 6, none⟩ = some (.slice p6 n6 c6) ∧ wx.cell? ⟨b, 7, none⟩ = some (.int .i64 mn) ∧ wx.cell? ⟨b + 1, 0, none⟩ = some (.int .i64 (kd t)) ∧ wx.cell? ⟨b + 1, 1, none⟩ = some (.int .i64 (nm t)) ∧ wx.cell? ⟨b + 1, 2, none⟩ = some (.slice pt (ar t).length ct) ∧ b < wx.heap.size ∧ b + 1 < wx.heap.size) := Lib.hid (fun wx hf => ⟨(Blk.keep (X := []) HBP.out hf (by simp)).cell 0, (Blk.keep (X := []) HBP.out hf (by simp)).cell 1, (Blk.keep (X := []) HBP.out hf (by simp)).cell 2, (Blk.keep (X := []) HBP.out hf (by simp)).cell 3, (Blk.keep (X := []) HBP.out hf (by simp)).cell 4, (Blk.keep (X := []) HBP.out hf (by simp)).cell 5, (Blk.keep (X := []) HBP.out hf (by simp)).cell 6, (Blk.keep (X := []) HBP.out hf (by simp)).cell 7, (Blk.keep (X := []) HBT.out hf (by simp)).cell 0, (Blk.keep (X := []) HBT.out hf (by simp)).cell 1, (Blk.keep (X := []) HBT.out hf (by simp)).cell 2, (Blk.keep (X := []) HBP.out hf (by simp)).lt, (Blk.keep (X := []) HBT.out hf (by simp)).lt⟩)
            have HM : Hid (Fr [] wS wS.drew) := Lib.hid ((Fr.refl [] _).drew)
            go_region_held3 (fun w' => w'.cell? ⟨b, 0, none⟩ = some (.slice p0 n0 c0) ∧ w'.cell? ⟨b, 1, none⟩ = some (.slice p1 n1 c1) ∧ w'.cell? ⟨b, 2, none⟩ = some (.slice pd ds.length cd) ∧ w'.cell? ⟨b, 3, none⟩ = some (.slice p3 n3 c3) ∧ w'.cell? ⟨b, 4, none⟩ = some (.slice p4 n4 c4) ∧ w'.cell? ⟨b, 5, none⟩ = some (.slice p5 n5 c5) ∧ w'.cell? ⟨b, 6, none⟩ = some (.slice p6 n6 c6) ∧ w'.cell? ⟨b, 7, none⟩ = some (.int .i64 mn) ∧ w'.cell? ⟨b + 1, 0, none⟩ = some (.int .i64 (kd t)) ∧ w'.cell? ⟨b + 1, 1, none⟩ = some (.int .i64 (nm t)) ∧ w'.cell? ⟨b + 1, 2, none⟩ = some (.slice pt (ar t).length ct) ∧ b < w'.heap.size ∧ b + 1 < w'.heap.size) (exact HK.out _ HN.out)
              (first | (go_at_call 21; (with_reducible refine (HVD.out _ HN.out).mono ?_); rintro e wn ⟨rfl, hf⟩; (try have T1 := Lib.hid (TyV.keep0 T1.out hf)); (try have T2 := Lib.hid (TyV.keep0 T2.out hf)); have HM := Lib.hid (HM.out.trans hf); have HN := Lib.hid (HN.out.trans hf); clear hf) | (go_at_call 17; (with_reducible refine (HSU.out _ HM.out HN.out).mono ?_); rintro e wn ⟨hf, dsn, rfl, hty⟩; (try have T1 := Lib.hid (TyV.keep0 T1.out hf)); (try have T2 := Lib.hid (TyV.keep0 T2.out hf)); have HM := Lib.hid (HM.out.trans hf); obtain ⟨pn, cn, rfl, _⟩ := hty.shape; have T1 := Lib.hid (TyV.weak (N' := fun _ => True) hty (fun _ _ _ => trivial)); clear hty; have HN := Lib.hid (HN.out.trans hf); clear hf) | (go_at_call 16; (with_reducible refine (HSM.out _ t _ _ T1.out (HT0.out _ HN.out)).mono ?_); rintro e wn ⟨rfl, hf⟩; (try have T1 := Lib.hid (TyV.keep0 T1.out hf)); (try have T2 := Lib.hid (TyV.keep0 T2.out hf)); have HM := Lib.hid (HM.out.trans hf); have HN := Lib.hid (HN.out.trans hf); clear hf))
            all_goals (try go_wp2_with fail)
            go_meet
            exact ⟨rfl, HN.out⟩
        case rest =>
          obtain ⟨rfl, hX⟩ := hcut
          obtain ⟨wB, hwB⟩ : ∃ v : World, v = wc := ⟨_, rfl⟩
          subst hwB
          have HX := Lib.hid hX
          clear hX HPS
          have hlo : one.length ≤ 8 := (Un.small_size HS1.out).2
          have hlw : two.length ≤ 8 := (Un.small_size HS2.out).2
          have HK : Hid (∀ wx, Fr [] w1 wx → wx.cell? ⟨b, 0, none⟩ = some (.slice p0 n0 c0) ∧ wx.cell? ⟨b, 1, none⟩ = some (.slice p1 n1 c1) ∧ wx.cell? ⟨b, 2, none⟩ = some (.slice pd ds.length cd) ∧ wx.cell? ⟨b, 3, none⟩ = some (.slice p3 n3 c3) ∧ wx.cell? ⟨b, 4, none⟩ = some (.slice p4 n4 c4) ∧ wx.cell? ⟨b, 5, none⟩ = some (.slice p5 n5 c5) ∧ wx.cell? ⟨b, 6, none⟩ = some (.slice p6 n6 c6) ∧ wx.cell? ⟨b, 7, none⟩ = some (.int .i64 mn) ∧ wx.cell? ⟨b + 1, 0, none⟩ = some (.int .i64 (kd t)) ∧ wx.cell? ⟨b + 1, 1, none⟩ = some (.int .i64 (nm t)) ∧ wx.cell? ⟨b + 1, 2, none⟩ = some (.slice pt (ar t).length ct) ∧ b < wx.heap.size ∧ b + 1 < wx.heap.size) := Lib.hid (fun wx hf => ⟨(Blk.keep (X := []) HBP.out hf (by simp)).cell 0, (Blk.keep (X := []) HBP.out hf (by simp)).cell 1, (Blk.keep (X := []) HBP.out hf (by simp)).cell 2, (Blk.keep (X := []) HBP.out hf (by simp)).cell 3, (Blk.keep (X := []) HBP.out hf (by simp)).cell 4, (Blk.keep (X := []) HBP.out hf (by simp)).cell 5, (Blk.keep (X := []) HBP.out hf (by simp)).cell 6, (Blk.keep (X := []) HBP.out hf (by simp)).cell 7, (Blk.keep (X := []) HBT.out hf (by simp)).cell 0, (Blk.keep (X := []) HBT.out hf (by simp)).cell 1, (Blk.keep (X := []) HBT.out hf (by simp)).cell 2, (Blk.keep (X := []) HBP.out hf (by simp)).lt, (Blk.keep (X := []) HBT.out hf (by simp)).lt⟩)
          obtain ⟨y0, y1, y2, y3, y4, y5, y6, y7, y8, y9, y10, yl11, yl12⟩ : wB.cell? ⟨b, 0, none⟩ = some (.slice p0 n0 c0) ∧ wB.cell? ⟨b, 1, none⟩ = some (.slice p1 n1 c1) ∧ wB.cell? ⟨b, 2, none⟩ = some (.slice pd ds.length cd) ∧ wB.cell? ⟨b, 3, none⟩ = some (.slice p3 n3 c3) ∧ wB.cell? ⟨b, 4, none⟩ = some (.slice p4 n4 c4) ∧ wB.cell? ⟨b, 5, none⟩ = some (.slice p5 n5 c5) ∧ wB.cell? ⟨b, 6, none⟩ = some (.slice p6 n6 c6) ∧ wB.cell? ⟨b, 7, none⟩ = some (.int .i64 mn) ∧ wB.cell? ⟨b + 1, 0, none⟩ = some (.int .i64 (kd t)) ∧ wB.cell? ⟨b + 1, 1, none⟩ = some (.int .i64 (nm t)) ∧ wB.cell? ⟨b + 1, 2, none⟩ = some (.slice pt (ar t).length ct) ∧ b < wB.heap.size ∧ b + 1 < wB.heap.size := HK.out _ HX.out
          go_wp2_with fail
          refine (valid_any ds one.length _ _ _ _ t wB (HPS0.out wB HX.out) (HT0.out wB HX.out)).mono ?_
          rintro e wn ⟨rfl, hf⟩
          clear y0 y1 y2 y3 y4 y5 y6 y7 y8 y9 y10 yl11 yl12
          have HX := Lib.hid (HX.out.trans hf)
          clear hf
          cases hvn : valid ds one.length t with
          | false =>
            go_wp2_with fail
            go_ret
            exact ⟨rfl, HF1.out.trans HX.out⟩
          | true =>
            have HVN := Lib.hid hvn
            clear hvn
            have d0 : wn.cell? ⟨b + 1, 0, none⟩ = some (.int .i64 (kd t)) := (Blk.keep (X := []) HBT.out HX.out (by simp)).cell 0
            have d1 : wn.cell? ⟨b + 1, 1, none⟩ = some (.int .i64 (nm t)) := (Blk.keep (X := []) HBT.out HX.out (by simp)).cell 1
            have d2 : wn.cell? ⟨b + 1, 2, none⟩ = some (.slice pt (ar t).length ct) := (Blk.keep (X := []) HBT.out HX.out (by simp)).cell 2
            have dl : b + 1 < wn.heap.size := (Blk.keep (X := []) HBT.out HX.out (by simp)).lt
            go_wp2_with fail
            refine (subst_any one t _ _ wn _ _ (TysV.keep0 (TysV.keep0 H1.out HF1.out) HX.out) (HT0.out wn HX.out) (by have := HS3.out; omega) (fun u hu => by have := (Un.small_size HS1.out).1 u hu; omega)).mono ?_
            obtain ⟨F, hF⟩ : ∃ F, F = subst one t := ⟨_, rfl⟩
            have HFQ := Lib.hid hF
            rw [← hF]
            clear hF d0 d1 d2 dl
            rintro e wo ⟨hf, dsn, rfl, hty⟩
            obtain ⟨pf, cf, rfl, _⟩ := hty.shape
            have HTF := Lib.hid (TyV.weak (N' := fun _ => True) hty (fun _ _ _ => trivial))
            clear hty
            have HX := Lib.hid (HX.out.trans hf)
            clear hf
            go_wp2_with fail
            obtain ⟨bF, hbF⟩ : ∃ x, x = wo.heap.size := ⟨_, rfl⟩
            obtain ⟨w0, hw0⟩ : ∃ x, x = wo.alloc (.cells #[.int .i64 (kd F), .int .i64 (nm F), .slice pf (ar F).length cf] 24) := ⟨_, rfl⟩
            have HFM : Hid (Fr [] wo w0) := Lib.hid (by rw [hw0]; exact (Fr.refl [] _).alloc _)
            have HBF : Hid (Blk w0 bF 24 #[.int .i64 (kd F), .int .i64 (nm F), .slice pf (ar F).length cf]) := Lib.hid (by rw [hw0, hbF]; exact Blk.new _ _ _)
            have HX := Lib.hid (HX.out.trans HFM.out)
            have HTF := Lib.hid (TyV.keep0 HTF.out HFM.out)
            rw [← hbF]
            rw [← hw0]
            clear hw0 hbF HFM
            obtain ⟨fm, hfm⟩ : ∃ fm : Nat → Bool, fm = fun i => (one.take i).all (fun u => Un.stored u && valid ds pr u) := ⟨_, rfl⟩
            have HFM := Lib.hid hfm
            have HFM0 : Hid (fm 0 = true) := Lib.hid (by rw [hfm]; rfl)
            clear hfm
            have HO0 : Hid (OwnL w0 (fun _ => True) w0.heap.size 24 3 0 .nil (.slice none 0 0)) := Lib.hid (OwnL.nil _ _ _ _ _)
            obtain ⟨j0, hj0, jz0, jz1, jz2⟩ := info_parts info_ty
            have HJ0 := Lib.hid hj0
            have HJZ0 := Lib.hid jz0
            have HJZ1 := Lib.hid jz1
            have HJZ2 := Lib.hid jz2
            clear hj0 jz0 jz1 jz2
            go_wp2_with fail
            go_loopw [15, 16, 17] (fun v15 v16 x wr => ∃ i : Nat, x = .int .i64 i ∧ i ≤ one.length ∧ v16 = .bool (fm i) ∧ Hid (OwnL wr (fun _ => True) w0.heap.size 24 3 i (rowsQ qTy ((one.take i).map (subst two))) v15) ∧ Hid (Fr [] w0 wr)) (fun _ _ x _ => one.length - (RowKit.intOf x).toNat)
            case atStart => exact ⟨0, rfl, Nat.zero_le _, by rw [HFM0.out], by simpa [rowsQ] using HO0, Lib.hid (Fr.refl _ _)⟩
            case round =>
              obtain ⟨i, rfl, hi, rfl, HO, HG⟩ := hrel
              clear HO0
              by_cases hlt : i < one.length
              · have hd2 : decide ((i : Int) < (one.length : Int)) = true := by simp; omega
                have hd3 : decide (i < one.length) = true := by simpa using hlt
                obtain ⟨u, hu⟩ : ∃ u, u = one[i] := ⟨_, rfl⟩
                have hui : one[i]? = some u := by rw [hu]; exact List.getElem?_eq_getElem hlt
                obtain ⟨bo, oo, rfl, hat⟩ : ∃ bo oo, q1 = some ⟨bo, oo, none⟩ ∧ TysAt w (fun _ => True) one bo oo := by
                  rcases H1.out.cases with ⟨h, _⟩ | ⟨_, bo, oo, cap, heq, _, _, hat⟩
                  · rw [h] at hlt; simp at hlt
                  · simp only [Value.slice.injEq] at heq
                    exact ⟨bo, oo, heq.1, hat⟩
                have HXR := Lib.hid (HX.out.trans HG.out)
                obtain ⟨pu, cu, ku, hb', g0', g1', g2'⟩ := hat.el (Fr.refl [] w) (by simp) hui
                have KU : Hid (∀ wx, Fr [] w1 wx → TyV wx (fun _ => True) u [.int .i64 (kd u), .int .i64 (nm u), .slice pu (ar u).length cu]) := Lib.hid (fun wx hf => TyV.keep0 ku (HF1.out.trans hf))
                have HKU : Hid (∀ wx, Fr [] w1 wx → wx.cell? ⟨bo, oo + i * 3, none⟩ = some (.int .i64 (kd u)) ∧ wx.cell? ⟨bo, oo + i * 3 + 1, none⟩ = some (.int .i64 (nm u)) ∧ wx.cell? ⟨bo, oo + i * 3 + 2, none⟩ = some (.slice pu (ar u).length cu) ∧ bo < wx.heap.size) := Lib.hid (fun wx hf => ⟨((HF1.out.trans hf).cell hb' (by simp) _).trans g0', ((HF1.out.trans hf).cell hb' (by simp) _).trans g1', ((HF1.out.trans hf).cell hb' (by simp) _).trans g2', Nat.lt_of_lt_of_le hb' (HF1.out.trans hf).size⟩)
                clear g0' g1' g2' hb'
                obtain ⟨g0, g1, g2, gl⟩ := HKU.out wr HXR.out
                have HUM : Hid (u ∈ one) := Lib.hid (List.mem_of_getElem? hui)
                have HFS : Hid (fm (i + 1) = (fm i && (Un.stored u && valid ds pr u))) := Lib.hid (by
                  rw [HFM.out]
                  simp only
                  rw [List.take_succ_eq_append_getElem hlt, ← hu, List.all_append]
                  simp)
                have HTK : Hid ((one.take (i + 1)).map (subst two) = (one.take i).map (subst two) ++ [subst two u]) := Lib.hid (by
                  rw [List.take_succ_eq_append_getElem hlt, ← hu, List.map_append]
                  rfl)
                obtain ⟨pv, cv, hv15⟩ := HO.out.shape
                subst hv15
                clear hat hu hui ku
                go_wp2_with fail
                refine (subst_any two u _ _ wr _ _ (TysV.keep0 (TysV.keep0 H2.out HF1.out) HXR.out) (KU.out wr HXR.out) (by have := (Un.small_size HS1.out).1 u HUM.out; omega) (fun z hz => by have := (Un.small_size HS2.out).1 z hz; omega)).mono ?_
                obtain ⟨S, hS⟩ : ∃ S, S = subst two u := ⟨_, rfl⟩
                have HSQ := Lib.hid hS
                rw [← hS]
                clear hS g0 g1 g2 gl
                rintro e wp ⟨hf, dsn, rfl, hty⟩
                obtain ⟨pS, cS, rfl, _⟩ := hty.shape
                have HG1 := Lib.hid (HG.out.trans hf)
                have HO1 := Lib.hid (HO.out.keep hf (by simp))
                have hown : ∀ g, (Value.slice pv i cv).ownBlock = some g → g < wr.heap.size := fun g hg => (HO.out.own g hg).2
                have hle : w0.heap.size ≤ wp.heap.size := HG1.out.size
                obtain ⟨a1, a2, a3, a4⟩ := ownl_ready2 (news := [.int .i64 (kd S), .int .i64 (nm S), .slice pS (ar S).length cS]) (qb := qTy S) HO1.out hle (InN.weak hty (fun k hk h => ⟨trivial, fun e => by have := hown k e; (have h3 : wr.heap.size ≤ k := h); omega⟩)) 24
                have G1 := Lib.hid a1
                have G2 := Lib.hid a2
                have G3 := Lib.hid a3
                clear a1 a2 a3 hf hty hown
                go_wp2_with (at_builtin; go_loud (refine wpList_append_ownl _ rfl _ _ 22 rfl (fun _ => True) w0.heap.size 24 j0 _ 3 40 Try.underlying22 HJ0.out HJZ0.out HJZ1.out HJZ2.out rfl (by decide) _ i 1 (rowsQ qTy ((one.take i).map (subst two))) (qTy S) rfl G1.out ⟨wp.heap.size, 0, none⟩ 1 [.int .i64 (kd S), .int .i64 (nm S), .slice pS (ar S).length cS] rfl rfl G2.out G3.out (by omega) (by decide) a4 ?_; intro v' wq hL5 hg5 hv5; obtain ⟨pz5, cz5, rfl⟩ := hL5.shape; have HL5 := Lib.hid hL5; have HG5 := Lib.hid hg5; have HV5 := Lib.hid hv5; clear hL5 hg5 hv5))
                have hfa : Fr [] w0 wq := by
                  have h1 : Fr (Value.slice pv i cv).ownBlock.toList (wp.alloc (.cells #[.int .i64 (kd S), .int .i64 (nm S), .slice pS (ar S).length cS] 24)) wq := ⟨HG5.out.os, HG5.out.tape, HG5.out.output, HG5.out.size, fun k hk hx => HG5.out.block k hk (fun e => hx (by simp; exact e.symm))⟩
                  exact (((HG1.out.alloc _).nil _).trans h1).sub (fun k hk => .inr (HO1.out.own k (by simpa using hk)).1)
                have HG6 := Lib.hid hfa
                have HXQ := Lib.hid (HX.out.trans hfa)
                have HL6 : Hid (OwnL wq (fun _ => True) w0.heap.size 24 3 (i + 1) (rowsQ qTy ((one.take (i + 1)).map (subst two))) (.slice pz5 (i + 1) cz5)) := Lib.hid (by
                  rw [HTK.out, rowsQ_snoc, ← HSQ.out]
                  exact HL5.out)
                clear hfa G1 G2 G3 HO1 HG1 HL5 HG5 HV5 a4 HO HG HXR
                have HKV : Hid (∀ wx, Fr [] w1 wx → wx.cell? ⟨b, 0, none⟩ = some (.slice p0 n0 c0) ∧ wx.cell? ⟨b, 1, none⟩ = some (.slice p1 n1 c1) ∧ wx.cell? ⟨b, 2, none⟩ = some (.slice pd ds.length cd) ∧ wx.cell? ⟨b, 3, none⟩ = some (.slice p3 n3 c3) ∧ wx.cell? ⟨b, 4, none⟩ = some (.slice p4 n4 c4) ∧ wx.cell? ⟨b, 5, none⟩ = some (.slice p5 n5 c5) ∧ wx.cell? ⟨b, 6, none⟩ = some (.slice p6 n6 c6) ∧ wx.cell? ⟨b, 7, none⟩ = some (.int .i64 mn) ∧ b < wx.heap.size ∧ wx.cell? ⟨bo, oo + i * 3, none⟩ = some (.int .i64 (kd u)) ∧ wx.cell? ⟨bo, oo + i * 3 + 1, none⟩ = some (.int .i64 (nm u)) ∧ wx.cell? ⟨bo, oo + i * 3 + 2, none⟩ = some (.slice pu (ar u).length cu) ∧ bo < wx.heap.size) := Lib.hid (fun wx hf => by
                  obtain ⟨e0, e1, e2, e3⟩ := HKU.out wx hf
                  have hp := Blk.keep (X := []) HBP.out hf (by simp)
                  exact ⟨hp.cell 0, hp.cell 1, hp.cell 2, hp.cell 3, hp.cell 4, hp.cell 5, hp.cell 6, hp.cell 7, hp.lt, e0, e1, e2, e3⟩)
                have HN : Hid (Fr [] w1 wq.drew) := Lib.hid (HXQ.out.trans ((Fr.refl [] _).drew))
                have HM : Hid (Fr [] wq wq.drew) := Lib.hid ((Fr.refl [] _).drew)
                have hd4 : decide (0 ≤ (i : Int)) = true := by simp
                cases hfi : fm i with
                | false =>
                  have HR : Hid (fm (i + 1) = false) := Lib.hid (by rw [HFS.out, hfi]; rfl)
                  obtain ⟨y0, y1, y2, y3, y4, y5, y6, y7, y8, y9, y10, y11, y12⟩ := HKV.out _ HN.out
                  clear hfi
                  first | (go_quiet (fail)) | (go_region_law (fail)) | fail
                  all_goals (try go_wp2_with fail)
                  all_goals
                    go_roundw
                    case rel => exact ⟨i + 1, by go_num, by omega, by rw [HR.out], Lib.hid (HL6.out.keep (X := []) ((Fr.refl [] _).drewN _) (by simp)), Lib.hid (HG6.out.trans ((Fr.refl [] _).drewN _))⟩
                    case measure => simp [RowKit.intOf]; omega
                | true =>
                  cases hst : Un.stored u with
                  | false =>
                    have HR : Hid (fm (i + 1) = false) := Lib.hid (by rw [HFS.out, hfi, hst]; rfl)
                    have HST : Hid (∀ wx, Fr [] w1 wx → Calls Try.prog 24 #[.agg #[.int .i64 (kd u), .int .i64 (nm u), .slice pu (ar u).length cu]] wx (LookP false wx)) := Lib.hid (fun wx hf => by
                      have h1 := rstored_any u _ wx _ (KU.out wx hf)
                      rwa [hst] at h1)
                    obtain ⟨y0, y1, y2, y3, y4, y5, y6, y7, y8, y9, y10, y11, y12⟩ := HKV.out _ HN.out
                    clear hfi hst
                    first | (go_region_law (first | (go_simp; (go_at_call 24; (with_reducible refine (HST.out _ HN.out).mono ?_); rintro e wn ⟨rfl, hf⟩; (try have T1 := Lib.hid (TyV.keep0 T1.out hf)); (try have T2 := Lib.hid (TyV.keep0 T2.out hf)); have HM := Lib.hid (HM.out.trans hf); have HN := Lib.hid (HN.out.trans hf); clear hf)))) | fail
                    all_goals (try go_wp2_with fail)
                    all_goals
                      have HG7 := Lib.hid (HG6.out.trans HM.out)
                      have HL7 := Lib.hid (HL6.out.keep (X := []) HM.out (by simp))
                      go_roundw
                      case rel => exact ⟨i + 1, by go_num, by omega, by rw [HR.out], HL7, HG7⟩
                      case measure => simp [RowKit.intOf]; omega
                  | true =>
                    obtain ⟨vb, hvb⟩ : ∃ vb, vb = valid ds pr u := ⟨_, rfl⟩
                    have HR : Hid (fm (i + 1) = vb) := Lib.hid (by rw [HFS.out, hfi, hst, ← hvb]; rfl)
                    have HST : Hid (∀ wx, Fr [] w1 wx → Calls Try.prog 24 #[.agg #[.int .i64 (kd u), .int .i64 (nm u), .slice pu (ar u).length cu]] wx (LookP true wx)) := Lib.hid (fun wx hf => by
                      have h1 := rstored_any u _ wx _ (KU.out wx hf)
                      rwa [hst] at h1)
                    have HVU : Hid (∀ wx, Fr [] w1 wx → Calls Try.prog 21 #[.agg #[.slice p0 n0 c0, .slice p1 n1 c1, .slice pd ds.length cd, .slice p3 n3 c3, .slice p4 n4 c4, .slice p5 n5 c5, .slice p6 n6 c6, .int .i64 mn], .int .i64 pr, .agg #[.int .i64 (kd u), .int .i64 (nm u), .slice pu (ar u).length cu]] wx (LookP vb wx)) := Lib.hid (fun wx hf => by
                      have h1 := valid_any ds pr _ _ _ _ u wx (HPS0.out wx hf) (KU.out wx hf)
                      rwa [← hvb] at h1)
                    clear hfi hst hvb
                    obtain ⟨y0, y1, y2, y3, y4, y5, y6, y7, y8, y9, y10, y11, y12⟩ := HKV.out _ HN.out
                    first | (go_region_law (first | (go_simp; (go_at_call 24; (with_reducible refine (HST.out _ HN.out).mono ?_); rintro e wn ⟨rfl, hf⟩; (try have T1 := Lib.hid (TyV.keep0 T1.out hf)); (try have T2 := Lib.hid (TyV.keep0 T2.out hf)); have HM := Lib.hid (HM.out.trans hf); have HN := Lib.hid (HN.out.trans hf); clear hf; obtain ⟨z0, z1, z2, z3, z4, z5, z6, z7, z8, z9, z10, z11, z12⟩ := HKV.out _ HN.out)) | (go_simp; (go_at_call 21; (with_reducible refine (HVU.out _ HN.out).mono ?_); rintro e wn ⟨rfl, hf⟩; (try have T1 := Lib.hid (TyV.keep0 T1.out hf)); (try have T2 := Lib.hid (TyV.keep0 T2.out hf)); have HM := Lib.hid (HM.out.trans hf); have HN := Lib.hid (HN.out.trans hf); clear hf)))) | fail
                    all_goals (try go_wp2_with fail)
                    all_goals
                      have HG7 := Lib.hid (HG6.out.trans HM.out)
                      have HL7 := Lib.hid (HL6.out.keep (X := []) HM.out (by simp))
                      go_roundw
                      case rel => exact ⟨i + 1, by go_num, by omega, by rw [HR.out], HL7, HG7⟩
                      case measure => simp [RowKit.intOf]; omega
              · have hd2 : decide ((i : Int) < (one.length : Int)) = false := by simp; omega
                have hd3 : decide (i < one.length) = false := by simpa using hlt
                obtain rfl : i = one.length := by omega
                obtain ⟨pv, cv, hv15⟩ := HO.out.shape
                subst hv15
                have HXR := Lib.hid (HX.out.trans HG.out)
                have hBO := HO.out.inn (N' := fun _ => True) (fun _ _ _ => trivial) (fun _ _ => trivial)
                have HBO : Hid (TysV wr (fun _ => True) (one.map (subst two)) (.slice pv one.length cv)) := Lib.hid (by
                  unfold TysV
                  rw [List.length_map]
                  rw [List.take_length] at hBO
                  exact hBO)
                have HBF1 := Lib.hid (Blk.keep (X := []) HBF.out HG.out (by simp))
                have HTF1 := Lib.hid (TyV.keep0 HTF.out HG.out)
                clear hBO HO HBF HTF HG
                go_wp2_with fail
                have hac : Un.acc ds one.length 8 t = true := by
                  have h1 := HVN.out
                  unfold valid at h1
                  rw [Bool.and_eq_true] at h1
                  exact h1.2
                have HEQ : Hid (subst two F = subst (one.map (subst two)) t) := Lib.hid (by rw [HFQ.out]; exact Un.subst_twice t hac)
                have hsF : size F ≤ 900 := by
                  rw [HFQ.out]
                  have h1 := Un.size_subst (l := one) (c := 30) (Un.small_size HS1.out).1 (by omega) t
                  have h2 := HS3.out
                  have h3 : size t * 30 ≤ 30 * 30 := Nat.mul_le_mul_right _ h2
                  omega
                have hsB : ∀ z ∈ one.map (subst two), size z ≤ 100000 := fun z hz => by
                  obtain ⟨y, hy, rfl⟩ := List.mem_map.1 hz
                  have h1 := Un.size_subst (l := two) (c := 30) (Un.small_size HS2.out).1 (by omega) y
                  have h2 := (Un.small_size HS1.out).1 y hy
                  have h3 : size y * 30 ≤ 30 * 30 := Nat.mul_le_mul_right _ h2
                  omega
                obtain ⟨R, hR⟩ : ∃ R, R = subst two F := ⟨_, rfl⟩
                have HS1c : Hid (∀ wx, Fr [] wr wx → Calls Try.prog 17 #[.slice q2 two.length k2, .agg #[.int .i64 (kd F), .int .i64 (nm F), .slice pf (ar F).length cf]] wx (NewP R wx)) := Lib.hid (fun wx hf => by
                  rw [hR]
                  exact subst_any two F _ _ wx _ _ (TysV.keep0 (TysV.keep0 H2.out HF1.out) (HXR.out.trans hf)) (TyV.keep0 HTF1.out hf) (by omega) (fun z hz => by have := (Un.small_size HS2.out).1 z hz; omega))
                have HS2c : Hid (∀ wx, Fr [] wr wx → Calls Try.prog 17 #[.slice pv one.length cv, .agg #[.int .i64 (kd t), .int .i64 (nm t), .slice pt (ar t).length ct]] wx (NewP R wx)) := Lib.hid (fun wx hf => by
                  rw [hR, HEQ.out]
                  exact subst_any (one.map (subst two)) t _ _ wx _ _ (TysV.keep0 HBO.out hf) (HT0.out wx (HXR.out.trans hf)) (by have := HS3.out; omega) hsB)
                clear hac hR hsB
                have HBT1 := Lib.hid (Blk.keep (X := []) HBT.out HXR.out (by simp))
                have HBP1 := Lib.hid (Blk.keep (X := []) HBP.out HXR.out (by simp))
                have HK3 : Hid (∀ wx, Fr [] wr wx → wx.cell? ⟨b + 1, 0, none⟩ = some (.int .i64 (kd t)) ∧ wx.cell? ⟨b + 1, 1, none⟩ = some (.int .i64 (nm t)) ∧ wx.cell? ⟨b + 1, 2, none⟩ = some (.slice pt (ar t).length ct) ∧ wx.cell? ⟨bF, 0, none⟩ = some (.int .i64 (kd F)) ∧ wx.cell? ⟨bF, 1, none⟩ = some (.int .i64 (nm F)) ∧ wx.cell? ⟨bF, 2, none⟩ = some (.slice pf (ar F).length cf) ∧ b + 1 < wx.heap.size ∧ bF < wx.heap.size) := Lib.hid (fun wx hf => ⟨(Blk.keep (X := []) HBT1.out hf (by simp)).cell 0, (Blk.keep (X := []) HBT1.out hf (by simp)).cell 1, (Blk.keep (X := []) HBT1.out hf (by simp)).cell 2, (Blk.keep (X := []) HBF1.out hf (by simp)).cell 0, (Blk.keep (X := []) HBF1.out hf (by simp)).cell 1, (Blk.keep (X := []) HBF1.out hf (by simp)).cell 2, (Blk.keep (X := []) HBT1.out hf (by simp)).lt, (Blk.keep (X := []) HBF1.out hf (by simp)).lt⟩)
                go_cut [107] (fun s107 wx => s107 = .bool false ∧ Fr [] wr wx)
                case first =>
                  -- CUTA
                  have HN : Hid (Fr [] wr wr.drew) := Lib.hid ((Fr.refl [] _).drew)
                  go_region_held3 (fun w' => w'.cell? ⟨b + 1, 0, none⟩ = some (.int .i64 (kd t)) ∧ w'.cell? ⟨b + 1, 1, none⟩ = some (.int .i64 (nm t)) ∧ w'.cell? ⟨b + 1, 2, none⟩ = some (.slice pt (ar t).length ct) ∧ w'.cell? ⟨bF, 0, none⟩ = some (.int .i64 (kd F)) ∧ w'.cell? ⟨bF, 1, none⟩ = some (.int .i64 (nm F)) ∧ w'.cell? ⟨bF, 2, none⟩ = some (.slice pf (ar F).length cf) ∧ b + 1 < w'.heap.size ∧ bF < w'.heap.size) (exact HK3.out _ HN.out)
                    (first | (go_at_call 17; (with_reducible refine (HS1c.out _ HN.out).mono ?_); rintro e wn ⟨hf, dsn, rfl, hty⟩; (try have T1 := Lib.hid (TyV.keep0 T1.out hf)); (try have T2 := Lib.hid (TyV.keep0 T2.out hf)); obtain ⟨pn, cn, rfl, _⟩ := hty.shape; have T1 := Lib.hid (TyV.weak (N' := fun _ => True) hty (fun _ _ _ => trivial)); clear hty; have HN := Lib.hid (HN.out.trans hf); clear hf) | (go_at_call 17; (with_reducible refine (HS2c.out _ HN.out).mono ?_); rintro e wn ⟨hf, dsn, rfl, hty⟩; (try have T1 := Lib.hid (TyV.keep0 T1.out hf)); (try have T2 := Lib.hid (TyV.keep0 T2.out hf)); obtain ⟨pn, cn, rfl, _⟩ := hty.shape; have T2 := Lib.hid (TyV.weak (N' := fun _ => True) hty (fun _ _ _ => trivial)); clear hty; have HN := Lib.hid (HN.out.trans hf); clear hf) | (go_at_call 16; (with_reducible refine (HSM.out _ R _ _ T1.out T2.out).mono ?_); rintro e wn ⟨rfl, hf⟩; (try have T1 := Lib.hid (TyV.keep0 T1.out hf)); (try have T2 := Lib.hid (TyV.keep0 T2.out hf)); have HN := Lib.hid (HN.out.trans hf); clear hf))
                  all_goals (try go_wp2_with fail)
                  all_goals (go_meet; exact ⟨rfl, HN.out⟩)
                case rest =>
                  -- CUTB
                  obtain ⟨rfl, hz⟩ := hcut
                  obtain ⟨wz, hwz⟩ : ∃ v : World, v = wc := ⟨_, rfl⟩
                  subst hwz
                  have HN := Lib.hid hz
                  have HXZ := Lib.hid (HXR.out.trans HN.out)
                  have HBP2 := Lib.hid (Blk.keep (X := []) HBP1.out HN.out (by simp))
                  have HBF2 := Lib.hid (Blk.keep (X := []) HBF1.out HN.out (by simp))
                  have HTF2 := Lib.hid (TyV.keep0 HTF1.out HN.out)
                  clear hz HN HK3 HS1c HS2c
                  go_wp2_with fail
                  cases hfl : fm one.length with
                  | false =>
                    clear hfl
                    first | (go_quiet (fail)) | (go_region_law (fail)) | fail
                    all_goals (try go_wp2_with fail)
                    all_goals go_ret
                    all_goals exact ⟨rfl, HF1.out.trans (HXZ.out.drewN _)⟩
                  | true =>
                    have hone : ∀ u ∈ one, Un.stored u = true ∧ valid ds pr u = true := fun u hu => by
                      rw [HFM.out] at hfl
                      simp only [List.take_length] at hfl
                      have h1 := (List.all_eq_true.1 hfl) u hu
                      rwa [Bool.and_eq_true] at h1
                    have HONE := Lib.hid hone
                    clear hone hfl
                    by_cases hp0 : pr < 0
                    · have hp1 : decide (pr < 0) = true := by simpa using hp0
                      first | (go_quiet (fail)) | (go_region_law (fail)) | fail
                      all_goals (try go_wp2_with fail)
                      all_goals go_ret
                      all_goals exact ⟨rfl, HF1.out.trans (HXZ.out.drewN _)⟩
                    have hp1 : decide (pr < 0) = false := by simpa using hp0
                    by_cases hp4 : 4 < pr
                    · have hp5 : decide (4 < pr) = true := by simpa using hp4
                      first | (go_quiet (fail)) | (go_region_law (fail)) | fail
                      all_goals (try go_wp2_with fail)
                      all_goals go_ret
                      all_goals exact ⟨rfl, HF1.out.trans (HXZ.out.drewN _)⟩
                    have hp5 : decide (4 < pr) = false := by simpa using hp4
                    obtain ⟨dB, hdB⟩ : ∃ dB, dB = decide (depth F ≤ 8) := ⟨_, rfl⟩
                    have hvF : valid ds pr F = dB := by
                      have h1 : valid ds pr F = Un.acc ds pr 8 F := by
                        unfold valid
                        rw [show decide (0 ≤ pr) = true by simp; omega, show decide (pr ≤ 4) = true by simp; omega]
                        rfl
                      have hac : Un.acc ds one.length 8 t = true := by
                        have h1 := HVN.out
                        unfold valid at h1
                        rw [Bool.and_eq_true] at h1
                        exact h1.2
                      rw [h1, hdB, HFQ.out]
                      refine Un.subst_acc (fun u hu => ⟨(HONE.out u hu).1, ?_⟩) t hac 8
                      have h2 := (HONE.out u hu).2
                      unfold valid at h2
                      rw [Bool.and_eq_true] at h2
                      exact h2.2
                    have hdd : decide ((depth F : Int) ≤ 8) = dB := by rw [hdB]; simp; omega
                    have HVF : Hid (∀ wx, Fr [] wz wx → Calls Try.prog 21 #[.agg #[.slice p0 n0 c0, .slice p1 n1 c1, .slice pd ds.length cd, .slice p3 n3 c3, .slice p4 n4 c4, .slice p5 n5 c5, .slice p6 n6 c6, .int .i64 mn], .int .i64 pr, .agg #[.int .i64 (kd F), .int .i64 (nm F), .slice pf (ar F).length cf]] wx (LookP dB wx)) := Lib.hid (fun wx hf => by
                      have h1 := valid_any ds pr _ _ _ _ F wx (HPS0.out wx (HXZ.out.trans hf)) (TyV.keep0 HTF2.out hf)
                      rwa [hvF] at h1)
                    have HDF : Hid (∀ wx, Fr [] wz wx → Calls Try.prog 25 #[.agg #[.int .i64 (kd F), .int .i64 (nm F), .slice pf (ar F).length cf]] wx (NumP (depth F) wx)) := Lib.hid (fun wx hf => rdepth_any _ (size F) F (Nat.le_refl _) (by omega) _ wx (TyV.keep0 HTF2.out hf))
                    clear hvF hdB HTF2
                    have HK4 : Hid (∀ wx, Fr [] wz wx → wx.cell? ⟨b, 0, none⟩ = some (.slice p0 n0 c0) ∧ wx.cell? ⟨b, 1, none⟩ = some (.slice p1 n1 c1) ∧ wx.cell? ⟨b, 2, none⟩ = some (.slice pd ds.length cd) ∧ wx.cell? ⟨b, 3, none⟩ = some (.slice p3 n3 c3) ∧ wx.cell? ⟨b, 4, none⟩ = some (.slice p4 n4 c4) ∧ wx.cell? ⟨b, 5, none⟩ = some (.slice p5 n5 c5) ∧ wx.cell? ⟨b, 6, none⟩ = some (.slice p6 n6 c6) ∧ wx.cell? ⟨b, 7, none⟩ = some (.int .i64 mn) ∧ wx.cell? ⟨bF, 0, none⟩ = some (.int .i64 (kd F)) ∧ wx.cell? ⟨bF, 1, none⟩ = some (.int .i64 (nm F)) ∧ wx.cell? ⟨bF, 2, none⟩ = some (.slice pf (ar F).length cf) ∧ b < wx.heap.size ∧ bF < wx.heap.size) := Lib.hid (fun wx hf => ⟨(Blk.keep (X := []) HBP2.out hf (by simp)).cell 0, (Blk.keep (X := []) HBP2.out hf (by simp)).cell 1, (Blk.keep (X := []) HBP2.out hf (by simp)).cell 2, (Blk.keep (X := []) HBP2.out hf (by simp)).cell 3, (Blk.keep (X := []) HBP2.out hf (by simp)).cell 4, (Blk.keep (X := []) HBP2.out hf (by simp)).cell 5, (Blk.keep (X := []) HBP2.out hf (by simp)).cell 6, (Blk.keep (X := []) HBP2.out hf (by simp)).cell 7, (Blk.keep (X := []) HBF2.out hf (by simp)).cell 0, (Blk.keep (X := []) HBF2.out hf (by simp)).cell 1, (Blk.keep (X := []) HBF2.out hf (by simp)).cell 2, (Blk.keep (X := []) HBP2.out hf (by simp)).lt, (Blk.keep (X := []) HBF2.out hf (by simp)).lt⟩)
                    have HN : Hid (Fr [] wz wz.drew) := Lib.hid ((Fr.refl [] _).drew)
                    cases dB with
                    | false =>
                      go_region_held3 (fun w' => w'.cell? ⟨b, 0, none⟩ = some (.slice p0 n0 c0) ∧ w'.cell? ⟨b, 1, none⟩ = some (.slice p1 n1 c1) ∧ w'.cell? ⟨b, 2, none⟩ = some (.slice pd ds.length cd) ∧ w'.cell? ⟨b, 3, none⟩ = some (.slice p3 n3 c3) ∧ w'.cell? ⟨b, 4, none⟩ = some (.slice p4 n4 c4) ∧ w'.cell? ⟨b, 5, none⟩ = some (.slice p5 n5 c5) ∧ w'.cell? ⟨b, 6, none⟩ = some (.slice p6 n6 c6) ∧ w'.cell? ⟨b, 7, none⟩ = some (.int .i64 mn) ∧ w'.cell? ⟨bF, 0, none⟩ = some (.int .i64 (kd F)) ∧ w'.cell? ⟨bF, 1, none⟩ = some (.int .i64 (nm F)) ∧ w'.cell? ⟨bF, 2, none⟩ = some (.slice pf (ar F).length cf) ∧ b < w'.heap.size ∧ bF < w'.heap.size) (exact HK4.out _ HN.out)
                        (first | (go_at_call 21; (with_reducible refine (HVF.out _ HN.out).mono ?_); rintro e wn ⟨rfl, hf⟩; (try have T1 := Lib.hid (TyV.keep0 T1.out hf)); (try have T2 := Lib.hid (TyV.keep0 T2.out hf)); have HN := Lib.hid (HN.out.trans hf); clear hf) | (go_at_call 25; (with_reducible refine (HDF.out _ HN.out).mono ?_); rintro e wn ⟨rfl, hf⟩; (try have T1 := Lib.hid (TyV.keep0 T1.out hf)); (try have T2 := Lib.hid (TyV.keep0 T2.out hf)); have HN := Lib.hid (HN.out.trans hf); clear hf))
                      all_goals (try go_wp2_with fail)
                      all_goals go_ret
                      all_goals exact ⟨rfl, HF1.out.trans (HXZ.out.trans HN.out)⟩
                    | true =>
                      go_region_held3 (fun w' => w'.cell? ⟨b, 0, none⟩ = some (.slice p0 n0 c0) ∧ w'.cell? ⟨b, 1, none⟩ = some (.slice p1 n1 c1) ∧ w'.cell? ⟨b, 2, none⟩ = some (.slice pd ds.length cd) ∧ w'.cell? ⟨b, 3, none⟩ = some (.slice p3 n3 c3) ∧ w'.cell? ⟨b, 4, none⟩ = some (.slice p4 n4 c4) ∧ w'.cell? ⟨b, 5, none⟩ = some (.slice p5 n5 c5) ∧ w'.cell? ⟨b, 6, none⟩ = some (.slice p6 n6 c6) ∧ w'.cell? ⟨b, 7, none⟩ = some (.int .i64 mn) ∧ w'.cell? ⟨bF, 0, none⟩ = some (.int .i64 (kd F)) ∧ w'.cell? ⟨bF, 1, none⟩ = some (.int .i64 (nm F)) ∧ w'.cell? ⟨bF, 2, none⟩ = some (.slice pf (ar F).length cf) ∧ b < w'.heap.size ∧ bF < w'.heap.size) (exact HK4.out _ HN.out)
                        (first | (go_at_call 21; (with_reducible refine (HVF.out _ HN.out).mono ?_); rintro e wn ⟨rfl, hf⟩; (try have T1 := Lib.hid (TyV.keep0 T1.out hf)); (try have T2 := Lib.hid (TyV.keep0 T2.out hf)); have HN := Lib.hid (HN.out.trans hf); clear hf) | (go_at_call 25; (with_reducible refine (HDF.out _ HN.out).mono ?_); rintro e wn ⟨rfl, hf⟩; (try have T1 := Lib.hid (TyV.keep0 T1.out hf)); (try have T2 := Lib.hid (TyV.keep0 T2.out hf)); have HN := Lib.hid (HN.out.trans hf); clear hf))
                      all_goals (try go_wp2_with fail)
                      all_goals go_ret
                      all_goals exact ⟨rfl, HF1.out.trans (HXZ.out.trans HN.out)⟩
end Go.Proofs.Ytjpbhmcbafidfaa
