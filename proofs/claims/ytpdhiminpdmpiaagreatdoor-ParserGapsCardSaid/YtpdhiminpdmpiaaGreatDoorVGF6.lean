/-
 Walks of the readers of items.
-/
import Derived.Test.YtpdhiminpdmpiaaGreatDoorVGF5
set_option linter.unusedVariables false
set_option linter.unusedSimpArgs false
set_option linter.unusedSectionVars false
set_option linter.unusedVariables false
set_option linter.unusedSimpArgs false
set_option linter.unusedSectionVars false
namespace Go.Proofs.YtpdhiminpdmpiaaGreatDoor
open Go.RowKit Go.Lib
open Lx (Tk)
open Px (Txt TyE VarD DataD TraitD BoundD ImplD ArgD ExprD StmtD ArmD FuncD ModD)
def okSig (e0 e1 e2 e3 e8 e9 : Value) : Nat → (List ArgD × TyE) → World → List Value → Prop := fun B a w cs =>
 ∃ p n k s p' n' k' i, cs = [e0, e1, e2, e3, .slice p n k, .string s, .slice p' n' k', .int .i64 i, e8, e9] ∧ okRow 156 6 argQ B a.1 w (.slice p n k) ∧ Rep w (fun k => B ≤ k) (typeQ a.2) [.string s, .slice p' n' k', .int .i64 i]
theorem reads_arg (c : Ctx) (n : Nat) (hty : Reads c 189 n (okAgg typeQ) (Px.typeF c.size n)) : Reads c 290 n (okAgg argQ) (Px.arg c.size n) := fun ts w h hm => arg_any c ts w h n hty hm
theorem reads_capture (c : Ctx) (n : Nat) (hty : Reads c 189 n (okAgg typeQ) (Px.typeF c.size n)) : Reads c 237 n (okAgg argQ) (Px.capture c.size n) := fun ts w h hm => capture_any c ts w h n hty hm
theorem reads_variant (c : Ctx) (n : Nat) (hty : Reads c 189 n (okAgg typeQ) (Px.typeF c.size n)) : Reads c 244 n (okAgg varQ) (Px.variant c.size n) := fun ts w h hm => variant_any c ts w h n hty hm
set_option maxRecDepth 100000 in
set_option maxHeartbeats 1600000 in
theorem signature_any (c : Ctx) (e0 e1 e2 e3 e8 e9 : Value) (ts : List Tk) (w : World) (h : Inv c ts w) (b : Nat) (hap : c.Apart b) (hD : Blk w b 54 #[e0, e1, e2, e3, .slice none 0 0, .string ⟨#[]⟩, .slice none 0 0, .int .i64 0, e8, e9]) (n : Nat) (hty : Reads c 189 n (okAgg typeQ) (Px.typeF c.size n)) (hm : ts.length < n) :
  Calls Tryz.prog 238 #[.pointer (some ⟨c.R, 0, none⟩), .pointer (some ⟨b, 0, none⟩)] w (RPB c b 54 w (okSig e0 e1 e2 e3 e8 e9) (Px.signature c.size n ts)) := by
 have HTY : Hid (Reads c 189 n (okAgg typeQ) (Px.typeF c.size n)) := Lib.hid hty
 clear hty
 have hmf := make_func
 have H := Lib.hid h
 have HD0 := Lib.hid hD
 have HR0 := H.out.lt.1
 have hb0 : b ≠ c.R := hap.1
 have hb1 : b < w.heap.size := hD.lt
 clear h hD
 go_enter Tryz.func238, Tryz.ntmps238
 go_wp2_with fail
 refine (pos_arg c _ n _ enters_arg (reads_arg c n HTY.out) (shr_arg _ _) [40] [41] (by decide) (by decide) ts _ (by exact H.out.frp hap (by repeat' (first | (with_reducible first | exact Fr.refl _ _ | refine Fr.setCell ?_ (Or.inl ?_) _ | refine Fr.alloc ?_ _ | refine Fr.drewN ?_ _) | (simp; done)))) (by omega)).mono ?_
 rintro e w1 hp
 rcases hp.cases with ⟨x1, ts1, v1, hq1, hf, hi, rfl, hv⟩ | ⟨ts1, hq1, hf, hi, rfl⟩
 ·clear hp
  obtain ⟨p1, n1, k1, rfl⟩ := row_shp hv
  have hV1 := row_own (b := w.heap.size) hv (by first | omega | (simp; done) | (simp; omega)) (Fr.refl [] _) (by simp)
  have hT : Fr [c.R, b] w w1 := Fr.trans (by repeat' (first | (with_reducible first | exact Fr.refl _ _ | refine Fr.setCell ?_ (Or.inl ?_) _ | refine Fr.alloc ?_ _ | refine Fr.drewN ?_ _) | (simp; done))) hf.wide
  have HD1 : Hid (Blk w1 (b) 54 #[e0, e1, e2, e3, .slice none 0 0, .string ⟨#[]⟩, .slice none 0 0, .int .i64 0, e8, e9]) := Lib.hid (HD0.out.keep hf (by simp; omega))
  have HI1 := Lib.hid hi
  have HF1 := Lib.hid ((Fr.refl [c.R, b] w).trans hT)
  have hz1 := hf.size
  try simp at hz1
  have HV1 := Lib.hid hV1
  have hl1 : ts1.length ≤ ts.length := (Shr.pos (shr_arg _ _) _ _).ok hq1.out
  clear hT hf hi hV1 hv
  have hlD : b < w1.heap.size := HD1.out.lt
  have d4 : w1.cell? ⟨b, 4, none⟩ = some (.slice none 0 0) := HD1.out.cell 4
  have f4 : w1.frozen? ⟨b, 4, none⟩ = false := HD1.out.frozen 4
  go_wp2_with fail
  clear hlD d4 f4
  refine (expect_any c ts1 [[45, 62]] _ _ 1 (by exact HI1.out.frp hap (by repeat' (first | (with_reducible first | exact Fr.refl _ _ | refine Fr.setCell ?_ (Or.inl ?_) _ | refine Fr.alloc ?_ _ | refine Fr.drewN ?_ _) | (simp; done)))) rfl (by exact Blk.new_at (by simp)) rfl (by decide)).mono ?_
  rintro e w2 hp
  rcases hp.cases with ⟨x2, ts2, v2, hq2, hf, hi, rfl, hv⟩ | ⟨ts2, hq2, hf, hi, rfl⟩
  ·clear hp
   obtain rfl := hv
   have hT : Fr [c.R, b] w1 w2 := Fr.trans (by repeat' (first | (with_reducible first | exact Fr.refl _ _ | refine Fr.setCell ?_ (Or.inl ?_) _ | refine Fr.alloc ?_ _ | refine Fr.drewN ?_ _) | (simp; done))) hf.wide
   have HD2 : Hid (Blk w2 (b) 54 #[e0, e1, e2, e3, .slice p1 n1 k1, .string ⟨#[]⟩, .slice none 0 0, .int .i64 0, e8, e9]) := Lib.hid ((Blk.alloc (HD1.out.set 4 (.slice p1 n1 k1)) _).keep hf (by simp; omega))
   have HV1_2 := Lib.hid (row_own HV1.out (Nat.le_refl _) hT (by simp; omega))
   have HI2 := Lib.hid hi
   have HF2 := Lib.hid (HF1.out.trans hT)
   have hz2 := hf.size
   try simp at hz2
   have hl2 : ts2.length ≤ ts1.length := (Shr.expect _).ok hq2.out
   clear hT hf hi
   have hlD : b < w2.heap.size := HD2.out.lt
   go_wp2_with fail
   clear hlD
   refine (HTY.out ts2 _ (by exact HI2.out.frp hap (by repeat' (first | (with_reducible first | exact Fr.refl _ _ | refine Fr.setCell ?_ (Or.inl ?_) _ | refine Fr.alloc ?_ _ | refine Fr.drewN ?_ _) | (simp; done)))) (by omega)).mono ?_
   rintro e w3 hp
   rcases hp.cases with ⟨x3, ts3, v3, hq3, hf, hi, rfl, hv⟩ | ⟨ts3, hq3, hf, hi, rfl⟩
   ·clear hp
    obtain ⟨cs, rfl, hrep⟩ := hv
    obtain ⟨y3_0, y3_1, y3_2, rfl⟩ := cells_3 (hrep.len.trans (len_typeQ x3))
    obtain ⟨s3_0, rfl⟩ := hrep.kind 0 rfl (kind_typeQ x3 0 rfl)
    obtain ⟨p3_1, n3_1, c3_1, rfl⟩ := hrep.kind 1 rfl (kind_typeQ x3 1 rfl)
    obtain ⟨i3_2, rfl⟩ := hrep.kind 2 rfl (kind_typeQ x3 2 rfl)
    have hV3 : Rep w3 (fun k => w.heap.size ≤ k) _ _ := hrep.mono (fun k hk _ => ⟨by (try simp at hk); omega, rfl⟩)
    have hT : Fr [c.R, b] w2 w3 := Fr.trans (by repeat' (first | (with_reducible first | exact Fr.refl _ _ | refine Fr.setCell ?_ (Or.inl ?_) _ | refine Fr.alloc ?_ _ | refine Fr.drewN ?_ _) | (simp; done))) hf.wide
    have HD3 : Hid (Blk w3 (b) 54 #[e0, e1, e2, e3, .slice p1 n1 k1, .string ⟨#[]⟩, .slice none 0 0, .int .i64 0, e8, e9]) := Lib.hid (HD2.out.keep hf (by simp; omega))
    have HV1_3 := Lib.hid (row_own HV1_2.out (Nat.le_refl _) hT (by simp; omega))
    have HI3 := Lib.hid hi
    have HF3 := Lib.hid (HF2.out.trans hT)
    have hz3 := hf.size
    try simp at hz3
    have HV3 := Lib.hid hV3
    have hl3 : ts3.length ≤ ts2.length := (shr_typeF _ _).ok hq3.out
    clear hT hf hi hV3 hrep
    have hlD : b < w3.heap.size := HD3.out.lt
    have d5 : w3.cell? ⟨b, 5, none⟩ = some (.string ⟨#[]⟩) := HD3.out.cell 5
    have d6 : w3.cell? ⟨b, 6, none⟩ = some (.slice none 0 0) := HD3.out.cell 6
    have d7 : w3.cell? ⟨b, 7, none⟩ = some (.int .i64 0) := HD3.out.cell 7
    have f5 : w3.frozen? ⟨b, 5, none⟩ = false := HD3.out.frozen 5
    have f6 : w3.frozen? ⟨b, 6, none⟩ = false := HD3.out.frozen 6
    have f7 : w3.frozen? ⟨b, 7, none⟩ = false := HD3.out.frozen 7
    go_wp2_with fail
    clear hlD d5 d6 d7 f5 f6 f7
    first | go_end0 | refine bodyPost_ret (results_none rfl _ _ _) rfl ?_
    exact RPB.ok (cs := [e0, e1, e2, e3, .slice p1 n1 k1, .string s3_0, .slice p3_1 n3_1 c3_1, .int .i64 i3_2, e8, e9]) (by simp only [Px.signature, bind, Px.Rd.bind, offset_res, if_true, if_false, Bool.false_eq_true, hq1.out, hq2.out, hq3.out] <;> rfl) (HF3.out.trans (by repeat' (first | (with_reducible first | exact Fr.refl _ _ | refine Fr.setCell ?_ (Or.inl ?_) _ | refine Fr.alloc ?_ _ | refine Fr.drewN ?_ _) | (simp; done)))) (HI3.out.frp hap (by repeat' (first | (with_reducible first | exact Fr.refl _ _ | refine Fr.setCell ?_ (Or.inl ?_) _ | refine Fr.alloc ?_ _ | refine Fr.drewN ?_ _) | (simp; done)))) (((HD3.out.set 5 (.string s3_0)).set 6 (.slice p3_1 n3_1 c3_1)).set 7 (.int .i64 i3_2)) (⟨_, _, _, _, _, _, _, _, rfl, (row_own (b := w.heap.size) HV1_3.out (by first | omega | (simp; done) | (simp; omega)) (X := [b]) (by repeat' (first | (with_reducible first | exact Fr.refl _ _ | refine Fr.setCell ?_ (Or.inl ?_) _ | refine Fr.alloc ?_ _ | refine Fr.drewN ?_ _) | (simp; done))) (by first | omega | (simp; done) | (simp; omega))), (rep_own (b := w.heap.size) HV3.out (X := [b]) (by repeat' (first | (with_reducible first | exact Fr.refl _ _ | refine Fr.setCell ?_ (Or.inl ?_) _ | refine Fr.alloc ?_ _ | refine Fr.drewN ?_ _) | (simp; done))) (by first | omega | (simp; done) | (simp; omega)) (by first | omega | (simp; done) | (simp; omega)))⟩)
   ·go_wp2_with fail
    exact ⟨rfl, RPB.bad (by simp only [Px.signature, bind, Px.Rd.bind, offset_res, if_true, if_false, Bool.false_eq_true, hq1.out, hq2.out, hq3.out]) (HF2.out.trans (Fr.trans (by repeat' (first | (with_reducible first | exact Fr.refl _ _ | refine Fr.setCell ?_ (Or.inl ?_) _ | refine Fr.alloc ?_ _ | refine Fr.drewN ?_ _) | (simp; done))) hf.wide)) hi⟩
  ·go_wp2_with fail
   exact ⟨rfl, RPB.bad (by simp only [Px.signature, bind, Px.Rd.bind, offset_res, if_true, if_false, Bool.false_eq_true, hq1.out, hq2.out]) (HF1.out.trans (Fr.trans (by repeat' (first | (with_reducible first | exact Fr.refl _ _ | refine Fr.setCell ?_ (Or.inl ?_) _ | refine Fr.alloc ?_ _ | refine Fr.drewN ?_ _) | (simp; done))) hf.wide)) hi⟩
 ·go_wp2_with fail
  exact ⟨rfl, RPB.bad (by simp only [Px.signature, bind, Px.Rd.bind, offset_res, if_true, if_false, Bool.false_eq_true, hq1.out]) ((Fr.refl [c.R, b] w).trans (Fr.trans (by repeat' (first | (with_reducible first | exact Fr.refl _ _ | refine Fr.setCell ?_ (Or.inl ?_) _ | refine Fr.alloc ?_ _ | refine Fr.drewN ?_ _) | (simp; done))) hf.wide)) hi⟩
set_option maxRecDepth 100000 in
set_option maxHeartbeats 1600000 in
theorem data_any (c : Ctx) (off : Nat) (ts : List Tk) (w : World) (h : Inv c ts w) (n : Nat) (hty : Reads c 189 n (okAgg typeQ) (Px.typeF c.size n)) (hm : ts.length < n) :
  Calls Tryz.prog 202 #[.pointer (some ⟨c.R, 0, none⟩), .int .i64 off] w (RP c w (okAgg dataQ) (Px.data c.size n off ts)) := by
 have HTY : Hid (Reads c 189 n (okAgg typeQ) (Px.typeF c.size n)) := Lib.hid hty
 clear hty
 have hmf := make_func
 have H := Lib.hid h
 have HR0 := H.out.lt.1
 clear h
 go_enter Tryz.func202, Tryz.ntmps202
 go_wp2_with fail
 refine (name_any c ts _ (by exact H.out.fr (X := [w.heap.size + 1]) H.out (by repeat' (first | (with_reducible first | exact Fr.refl _ _ | refine Fr.setCell ?_ (Or.inl ?_) _ | refine Fr.alloc ?_ _ | refine Fr.drewN ?_ _) | (simp; done))) (by simp))).mono ?_
 rintro e w1 hp
 rcases hp.cases with ⟨x1, ts1, v1, hq1, hf, hi, rfl, hv⟩ | ⟨ts1, hq1, hf, hi, rfl⟩
 ·clear hp
  obtain rfl := hv
  have hT : Fr [c.R, w.heap.size + 1] w w1 := Fr.trans (by repeat' (first | (with_reducible first | exact Fr.refl _ _ | refine Fr.setCell ?_ (Or.inl ?_) _ | refine Fr.alloc ?_ _ | refine Fr.drewN ?_ _) | (simp; done))) hf.wide
  have HD1 : Hid (Blk w1 (w.heap.size + 1) 65 #[.string ⟨#[]⟩, .slice none 0 0, .slice none 0 0, .int .i64 0, .int .i64 off]) := Lib.hid ((Blk.new_at (by simp)).keep hf (by simp; omega))
  have HB1 : Hid (Blk w1 (w.heap.size) 65 #[.string ⟨#[]⟩, .slice none 0 0, .slice none 0 0, .int .i64 0, .int .i64 0]) := Lib.hid ((Blk.alloc (Blk.new w _ _) _).keep hf (by simp; omega))
  have HI1 := Lib.hid hi
  have HF1 := Lib.hid ((Fr.refl [c.R] w).join hT (by simp))
  have hz1 := hf.size
  try simp at hz1
  have hl1 : ts1.length < ts.length := Strict.name _ _ _ hq1.out
  clear hT hf hi
  have hlD : w.heap.size + 1 < w1.heap.size := HD1.out.lt
  have d0 : w1.cell? ⟨w.heap.size + 1, 0, none⟩ = some (.string ⟨#[]⟩) := HD1.out.cell 0
  have f0 : w1.frozen? ⟨w.heap.size + 1, 0, none⟩ = false := HD1.out.frozen 0
  go_wp2_with fail
  clear hlD d0 f0
  refine (params_any c ts1 _ (by exact HI1.out.fr (X := [w.heap.size + 1]) H.out (by repeat' (first | (with_reducible first | exact Fr.refl _ _ | refine Fr.setCell ?_ (Or.inl ?_) _ | refine Fr.alloc ?_ _ | refine Fr.drewN ?_ _) | (simp; done))) (by simp))).mono ?_
  rintro e w2 hp
  rcases hp.cases with ⟨x2, ts2, v2, hq2, hf, hi, rfl, hv⟩ | ⟨ts2, hq2, hf, hi, rfl⟩
  ·clear hp
   obtain ⟨p2, n2, k2, rfl⟩ := row_shp hv
   have hV2 := row_own (b := w.heap.size + 2) hv (by first | omega | (simp; done) | (simp; omega)) (Fr.refl [] _) (by simp)
   have hT : Fr [c.R, w.heap.size + 1] w1 w2 := Fr.trans (by repeat' (first | (with_reducible first | exact Fr.refl _ _ | refine Fr.setCell ?_ (Or.inl ?_) _ | refine Fr.alloc ?_ _ | refine Fr.drewN ?_ _) | (simp; done))) hf.wide
   have HD2 : Hid (Blk w2 (w.heap.size + 1) 65 #[.string ⟨x1.toArray⟩, .slice none 0 0, .slice none 0 0, .int .i64 0, .int .i64 off]) := Lib.hid ((HD1.out.set 0 (.string ⟨x1.toArray⟩)).keep hf (by simp; omega))
   have HB2 : Hid (Blk w2 (w.heap.size) 65 #[.string ⟨#[]⟩, .slice none 0 0, .slice none 0 0, .int .i64 0, .int .i64 0]) := Lib.hid (HB1.out.keep hT (by simp; omega))
   have HI2 := Lib.hid hi
   have HF2 := Lib.hid (HF1.out.join hT (by simp))
   have hz2 := hf.size
   try simp at hz2
   have HV2 := Lib.hid hV2
   have hl2 : ts2.length ≤ ts1.length := (shr_params).ok hq2.out
   clear hT hf hi hV2 hv
   have hlD : w.heap.size + 1 < w2.heap.size := HD2.out.lt
   have d1 : w2.cell? ⟨w.heap.size + 1, 1, none⟩ = some (.slice none 0 0) := HD2.out.cell 1
   have f1 : w2.frozen? ⟨w.heap.size + 1, 1, none⟩ = false := HD2.out.frozen 1
   go_wp2_with fail
   clear hlD d1 f1
   refine (expect_any c ts2 [[123]] _ _ 1 (by exact HI2.out.fr (X := [w.heap.size + 1]) H.out (by repeat' (first | (with_reducible first | exact Fr.refl _ _ | refine Fr.setCell ?_ (Or.inl ?_) _ | refine Fr.alloc ?_ _ | refine Fr.drewN ?_ _) | (simp; done))) (by simp)) rfl (by exact Blk.new_at (by simp)) rfl (by decide)).mono ?_
   rintro e w3 hp
   rcases hp.cases with ⟨x3, ts3, v3, hq3, hf, hi, rfl, hv⟩ | ⟨ts3, hq3, hf, hi, rfl⟩
   ·clear hp
    obtain rfl := hv
    have hT : Fr [c.R, w.heap.size + 1] w2 w3 := Fr.trans (by repeat' (first | (with_reducible first | exact Fr.refl _ _ | refine Fr.setCell ?_ (Or.inl ?_) _ | refine Fr.alloc ?_ _ | refine Fr.drewN ?_ _) | (simp; done))) hf.wide
    have HD3 : Hid (Blk w3 (w.heap.size + 1) 65 #[.string ⟨x1.toArray⟩, .slice p2 n2 k2, .slice none 0 0, .int .i64 0, .int .i64 off]) := Lib.hid ((Blk.alloc (HD2.out.set 1 (.slice p2 n2 k2)) _).keep hf (by simp; omega))
    have HB3 : Hid (Blk w3 (w.heap.size) 65 #[.string ⟨#[]⟩, .slice none 0 0, .slice none 0 0, .int .i64 0, .int .i64 0]) := Lib.hid (HB2.out.keep hT (by simp; omega))
    have HV2_3 := Lib.hid (row_own HV2.out (Nat.le_refl _) hT (by simp; omega))
    have HI3 := Lib.hid hi
    have HF3 := Lib.hid (HF2.out.join hT (by simp))
    have hz3 := hf.size
    try simp at hz3
    have hl3 : ts3.length ≤ ts2.length := (Shr.expect _).ok hq3.out
    clear hT hf hi
    have hlD : w.heap.size + 1 < w3.heap.size := HD3.out.lt
    go_wp2_with fail
    clear hlD
    refine (list_var c _ n _ enters_variant (reads_variant c n HTY.out) (shr_variant _ _) ts3 _ (by exact HI3.out.fr (X := [w.heap.size + 1]) H.out (by repeat' (first | (with_reducible first | exact Fr.refl _ _ | refine Fr.setCell ?_ (Or.inl ?_) _ | refine Fr.alloc ?_ _ | refine Fr.drewN ?_ _) | (simp; done))) (by simp)) (by omega)).mono ?_
    rintro e w4 hp
    rcases hp.cases with ⟨x4, ts4, v4, hq4, hf, hi, rfl, hv⟩ | ⟨ts4, hq4, hf, hi, rfl⟩
    ·clear hp
     obtain ⟨p4, n4, k4, rfl⟩ := row_shp hv
     have hV4 := row_own (b := w.heap.size + 2) hv (by first | omega | (simp; done) | (simp; omega)) (Fr.refl [] _) (by simp)
     have hT : Fr [c.R, w.heap.size + 1] w3 w4 := Fr.trans (by repeat' (first | (with_reducible first | exact Fr.refl _ _ | refine Fr.setCell ?_ (Or.inl ?_) _ | refine Fr.alloc ?_ _ | refine Fr.drewN ?_ _) | (simp; done))) hf.wide
     have HD4 : Hid (Blk w4 (w.heap.size + 1) 65 #[.string ⟨x1.toArray⟩, .slice p2 n2 k2, .slice none 0 0, .int .i64 0, .int .i64 off]) := Lib.hid (HD3.out.keep hf (by simp; omega))
     have HB4 : Hid (Blk w4 (w.heap.size) 65 #[.string ⟨#[]⟩, .slice none 0 0, .slice none 0 0, .int .i64 0, .int .i64 0]) := Lib.hid (HB3.out.keep hT (by simp; omega))
     have HV2_4 := Lib.hid (row_own HV2_3.out (Nat.le_refl _) hT (by simp; omega))
     have HI4 := Lib.hid hi
     have HF4 := Lib.hid (HF3.out.join hT (by simp))
     have hz4 := hf.size
     try simp at hz4
     have HV4 := Lib.hid hV4
     have hl4 : ts4.length ≤ ts3.length := (Shr.list (shr_variant _ _)).ok hq4.out
     clear hT hf hi hV4 hv
     have hlD : w.heap.size + 1 < w4.heap.size := HD4.out.lt
     have d2 : w4.cell? ⟨w.heap.size + 1, 2, none⟩ = some (.slice none 0 0) := HD4.out.cell 2
     have f2 : w4.frozen? ⟨w.heap.size + 1, 2, none⟩ = false := HD4.out.frozen 2
     go_wp2_with fail
     clear hlD d2 f2
     refine (expect_any c ts4 [[125]] _ _ 1 (by exact HI4.out.fr (X := [w.heap.size + 1]) H.out (by repeat' (first | (with_reducible first | exact Fr.refl _ _ | refine Fr.setCell ?_ (Or.inl ?_) _ | refine Fr.alloc ?_ _ | refine Fr.drewN ?_ _) | (simp; done))) (by simp)) rfl (by exact Blk.new_at (by simp)) rfl (by decide)).mono ?_
     rintro e w5 hp
     rcases hp.cases with ⟨x5, ts5, v5, hq5, hf, hi, rfl, hv⟩ | ⟨ts5, hq5, hf, hi, rfl⟩
     ·clear hp
      obtain rfl := hv
      have hT : Fr [c.R, w.heap.size + 1] w4 w5 := Fr.trans (by repeat' (first | (with_reducible first | exact Fr.refl _ _ | refine Fr.setCell ?_ (Or.inl ?_) _ | refine Fr.alloc ?_ _ | refine Fr.drewN ?_ _) | (simp; done))) hf.wide
      have HD5 : Hid (Blk w5 (w.heap.size + 1) 65 #[.string ⟨x1.toArray⟩, .slice p2 n2 k2, .slice p4 n4 k4, .int .i64 0, .int .i64 off]) := Lib.hid ((Blk.alloc (HD4.out.set 2 (.slice p4 n4 k4)) _).keep hf (by simp; omega))
      have HB5 : Hid (Blk w5 (w.heap.size) 65 #[.string ⟨#[]⟩, .slice none 0 0, .slice none 0 0, .int .i64 0, .int .i64 0]) := Lib.hid (HB4.out.keep hT (by simp; omega))
      have HV2_5 := Lib.hid (row_own HV2_4.out (Nat.le_refl _) hT (by simp; omega))
      have HV4_5 := Lib.hid (row_own HV4.out (Nat.le_refl _) hT (by simp; omega))
      have HI5 := Lib.hid hi
      have HF5 := Lib.hid (HF4.out.join hT (by simp))
      have hz5 := hf.size
      try simp at hz5
      have hl5 : ts5.length ≤ ts4.length := (Shr.expect _).ok hq5.out
      clear hT hf hi
      have hlD : w.heap.size + 1 < w5.heap.size := HD5.out.lt
      go_wp2_with fail
      clear hlD
      refine (accept_any c ts5 [[100, 114, 111, 112]] _ _ 1 (by exact HI5.out.fr (X := [w.heap.size + 1]) H.out (by repeat' (first | (with_reducible first | exact Fr.refl _ _ | refine Fr.setCell ?_ (Or.inl ?_) _ | refine Fr.alloc ?_ _ | refine Fr.drewN ?_ _) | (simp; done))) (by simp)) rfl (by exact Blk.new_at (by simp)) rfl (by decide)).mono ?_
      rintro e w6 hp
      rcases hp.accept with ⟨hq6, _, hf, hi, rfl⟩ | ⟨hq6, hf, hi, rfl⟩
      ·clear hp
       have hl6 := accept_pos hq6.out rfl
       have hT : Fr [c.R, w.heap.size + 1] w5 w6 := Fr.trans (by repeat' (first | (with_reducible first | exact Fr.refl _ _ | refine Fr.setCell ?_ (Or.inl ?_) _ | refine Fr.alloc ?_ _ | refine Fr.drewN ?_ _) | (simp; done))) hf.wide
       have HD6 : Hid (Blk w6 (w.heap.size + 1) 65 #[.string ⟨x1.toArray⟩, .slice p2 n2 k2, .slice p4 n4 k4, .int .i64 0, .int .i64 off]) := Lib.hid ((Blk.alloc HD5.out _).keep hf (by simp; omega))
       have HB6 : Hid (Blk w6 (w.heap.size) 65 #[.string ⟨#[]⟩, .slice none 0 0, .slice none 0 0, .int .i64 0, .int .i64 0]) := Lib.hid (HB5.out.keep hT (by simp; omega))
       have HV2_6 := Lib.hid (row_own HV2_5.out (Nat.le_refl _) hT (by simp; omega))
       have HV4_6 := Lib.hid (row_own HV4_5.out (Nat.le_refl _) hT (by simp; omega))
       have HI6 := Lib.hid hi
       have HF6 := Lib.hid (HF5.out.join hT (by simp))
       have hz6 := hf.size
       try simp at hz6
       clear hT hf hi
       have hlD : w.heap.size + 1 < w6.heap.size := HD6.out.lt
       go_wp2_with fail
       clear hlD
       refine (dropAction_any c ts5.tail _ (by exact HI6.out.fr (X := [w.heap.size + 1]) H.out (by repeat' (first | (with_reducible first | exact Fr.refl _ _ | refine Fr.setCell ?_ (Or.inl ?_) _ | refine Fr.alloc ?_ _ | refine Fr.drewN ?_ _) | (simp; done))) (by simp))).mono ?_
       rintro e w7 hp
       rcases hp.cases with ⟨x7, ts7, v7, hq7, hf, hi, rfl, hv⟩ | ⟨ts7, hq7, hf, hi, rfl⟩
       ·clear hp
        obtain rfl := hv
        have hT : Fr [c.R, w.heap.size + 1] w6 w7 := Fr.trans (by repeat' (first | (with_reducible first | exact Fr.refl _ _ | refine Fr.setCell ?_ (Or.inl ?_) _ | refine Fr.alloc ?_ _ | refine Fr.drewN ?_ _) | (simp; done))) hf.wide
        have HD7 : Hid (Blk w7 (w.heap.size + 1) 65 #[.string ⟨x1.toArray⟩, .slice p2 n2 k2, .slice p4 n4 k4, .int .i64 0, .int .i64 off]) := Lib.hid (HD6.out.keep hf (by simp; omega))
        have HB7 : Hid (Blk w7 (w.heap.size) 65 #[.string ⟨#[]⟩, .slice none 0 0, .slice none 0 0, .int .i64 0, .int .i64 0]) := Lib.hid (HB6.out.keep hT (by simp; omega))
        have HV2_7 := Lib.hid (row_own HV2_6.out (Nat.le_refl _) hT (by simp; omega))
        have HV4_7 := Lib.hid (row_own HV4_6.out (Nat.le_refl _) hT (by simp; omega))
        have HI7 := Lib.hid hi
        have HF7 := Lib.hid (HF6.out.join hT (by simp))
        have hz7 := hf.size
        try simp at hz7
        have hl7 : ts7.length ≤ ts5.tail.length := (shr_dropAction).ok hq7.out
        clear hT hf hi
        have hlD : w.heap.size + 1 < w7.heap.size := HD7.out.lt
        have d3 : w7.cell? ⟨w.heap.size + 1, 3, none⟩ = some (.int .i64 0) := HD7.out.cell 3
        have f3 : w7.frozen? ⟨w.heap.size + 1, 3, none⟩ = false := HD7.out.frozen 3
        go_wp2_with fail
        clear hlD d3 f3
        refine (expect_any c ts7 [[59]] _ _ 1 (by exact HI7.out.fr (X := [w.heap.size + 1]) H.out (by repeat' (first | (with_reducible first | exact Fr.refl _ _ | refine Fr.setCell ?_ (Or.inl ?_) _ | refine Fr.alloc ?_ _ | refine Fr.drewN ?_ _) | (simp; done))) (by simp)) rfl (by exact Blk.new_at (by simp)) rfl (by decide)).mono ?_
        rintro e w8 hp
        rcases hp.cases with ⟨x8, ts8, v8, hq8, hf, hi, rfl, hv⟩ | ⟨ts8, hq8, hf, hi, rfl⟩
        ·clear hp
         obtain rfl := hv
         have hT : Fr [c.R, w.heap.size + 1] w7 w8 := Fr.trans (by repeat' (first | (with_reducible first | exact Fr.refl _ _ | refine Fr.setCell ?_ (Or.inl ?_) _ | refine Fr.alloc ?_ _ | refine Fr.drewN ?_ _) | (simp; done))) hf.wide
         have HD8 : Hid (Blk w8 (w.heap.size + 1) 65 #[.string ⟨x1.toArray⟩, .slice p2 n2 k2, .slice p4 n4 k4, .int .i64 x7, .int .i64 off]) := Lib.hid ((Blk.alloc (HD7.out.set 3 (.int .i64 x7)) _).keep hf (by simp; omega))
         have HB8 : Hid (Blk w8 (w.heap.size) 65 #[.string ⟨#[]⟩, .slice none 0 0, .slice none 0 0, .int .i64 0, .int .i64 0]) := Lib.hid (HB7.out.keep hT (by simp; omega))
         have HV2_8 := Lib.hid (row_own HV2_7.out (Nat.le_refl _) hT (by simp; omega))
         have HV4_8 := Lib.hid (row_own HV4_7.out (Nat.le_refl _) hT (by simp; omega))
         have HI8 := Lib.hid hi
         have HF8 := Lib.hid (HF7.out.join hT (by simp))
         have hz8 := hf.size
         try simp at hz8
         have hl8 : ts8.length ≤ ts7.length := (Shr.expect _).ok hq8.out
         clear hT hf hi
         have hlB : w.heap.size < w8.heap.size := by omega
         have hlD : w.heap.size + 1 < w8.heap.size := HD8.out.lt
         have d0 : w8.cell? ⟨w.heap.size + 1, 0, none⟩ = some (.string ⟨x1.toArray⟩) := HD8.out.cell 0
         have d1 : w8.cell? ⟨w.heap.size + 1, 1, none⟩ = some (.slice p2 n2 k2) := HD8.out.cell 1
         have d2 : w8.cell? ⟨w.heap.size + 1, 2, none⟩ = some (.slice p4 n4 k4) := HD8.out.cell 2
         have d3 : w8.cell? ⟨w.heap.size + 1, 3, none⟩ = some (.int .i64 x7) := HD8.out.cell 3
         have d4 : w8.cell? ⟨w.heap.size + 1, 4, none⟩ = some (.int .i64 off) := HD8.out.cell 4
         have b0 : w8.cell? ⟨w.heap.size, 0, none⟩ = some (.string ⟨#[]⟩) := HB8.out.cell 0
         have b1 : w8.cell? ⟨w.heap.size, 1, none⟩ = some (.slice none 0 0) := HB8.out.cell 1
         have b2 : w8.cell? ⟨w.heap.size, 2, none⟩ = some (.slice none 0 0) := HB8.out.cell 2
         have b3 : w8.cell? ⟨w.heap.size, 3, none⟩ = some (.int .i64 0) := HB8.out.cell 3
         have b4 : w8.cell? ⟨w.heap.size, 4, none⟩ = some (.int .i64 0) := HB8.out.cell 4
         have g0 : w8.frozen? ⟨w.heap.size, 0, none⟩ = false := HB8.out.frozen 0
         have g1 : w8.frozen? ⟨w.heap.size, 1, none⟩ = false := HB8.out.frozen 1
         have g2 : w8.frozen? ⟨w.heap.size, 2, none⟩ = false := HB8.out.frozen 2
         have g3 : w8.frozen? ⟨w.heap.size, 3, none⟩ = false := HB8.out.frozen 3
         have g4 : w8.frozen? ⟨w.heap.size, 4, none⟩ = false := HB8.out.frozen 4
         go_wp2_with fail
         refine bodyPost_ret (v := .agg #[.string ⟨x1.toArray⟩, .slice p2 n2 k2, .slice p4 n4 k4, .int .i64 x7, .int .i64 off]) (by simp [results, Tryz.results202, go_sem, hlB, hlD, d0, d1, d2, d3, d4, b0, b1, b2, b3, b4, g0, g1, g2, g3, g4]) rfl ?_
         clear hlB hlD d0 d1 d2 d3 d4 b0 b1 b2 b3 b4 g0 g1 g2 g3 g4
         exact RP.ok (a := ⟨x1, x2, x4, x7, off⟩) (by simp only [Px.data, bind, Px.Rd.bind, offset_res, if_true, if_false, Bool.false_eq_true, hq1.out, hq2.out, hq3.out, hq4.out, hq5.out, hq6.out, hq7.out, hq8.out] <;> rfl) (HF8.out.join (X := [w.heap.size + 1, w.heap.size]) (by repeat' (first | (with_reducible first | exact Fr.refl _ _ | refine Fr.setCell ?_ (Or.inl ?_) _ | refine Fr.alloc ?_ _ | refine Fr.drewN ?_ _) | (simp; done))) (by simp)) (HI8.out.fr (X := [w.heap.size + 1, w.heap.size]) H.out (by repeat' (first | (with_reducible first | exact Fr.refl _ _ | refine Fr.setCell ?_ (Or.inl ?_) _ | refine Fr.alloc ?_ _ | refine Fr.drewN ?_ _) | (simp; done))) (by simp)) ⟨[.string ⟨x1.toArray⟩, .slice p2 n2 k2, .slice p4 n4 k4, .int .i64 x7, .int .i64 off], rfl, rep_str.2 ⟨_, rfl, rep_sl.2 ⟨_, _, rfl, (row_own (b := w.heap.size) HV2_8.out (by first | omega | (simp; done) | (simp; omega)) (X := [w.heap.size + 1, w.heap.size]) (by repeat' (first | (with_reducible first | exact Fr.refl _ _ | refine Fr.setCell ?_ (Or.inl ?_) _ | refine Fr.alloc ?_ _ | refine Fr.drewN ?_ _) | (simp; done))) (by first | omega | (simp; done) | (simp; omega))), rep_sl.2 ⟨_, _, rfl, (row_own (b := w.heap.size) HV4_8.out (by first | omega | (simp; done) | (simp; omega)) (X := [w.heap.size + 1, w.heap.size]) (by repeat' (first | (with_reducible first | exact Fr.refl _ _ | refine Fr.setCell ?_ (Or.inl ?_) _ | refine Fr.alloc ?_ _ | refine Fr.drewN ?_ _) | (simp; done))) (by first | omega | (simp; done) | (simp; omega))), rep_int.2 ⟨_, rfl, rep_int.2 ⟨_, rfl, rep_nil.2 rfl⟩⟩⟩⟩⟩⟩
        ·go_wp2_with fail
         exact ⟨rfl, RP.bad (by simp only [Px.data, bind, Px.Rd.bind, offset_res, if_true, if_false, Bool.false_eq_true, hq1.out, hq2.out, hq3.out, hq4.out, hq5.out, hq6.out, hq7.out, hq8.out]) (HF7.out.join (X := [w.heap.size + 1]) (Fr.trans (by repeat' (first | (with_reducible first | exact Fr.refl _ _ | refine Fr.setCell ?_ (Or.inl ?_) _ | refine Fr.alloc ?_ _ | refine Fr.drewN ?_ _) | (simp; done))) hf.wide) (by simp)) hi⟩
       ·go_wp2_with fail
        exact ⟨rfl, RP.bad (by simp only [Px.data, bind, Px.Rd.bind, offset_res, if_true, if_false, Bool.false_eq_true, hq1.out, hq2.out, hq3.out, hq4.out, hq5.out, hq6.out, hq7.out]) (HF6.out.join (X := [w.heap.size + 1]) (Fr.trans (by repeat' (first | (with_reducible first | exact Fr.refl _ _ | refine Fr.setCell ?_ (Or.inl ?_) _ | refine Fr.alloc ?_ _ | refine Fr.drewN ?_ _) | (simp; done))) hf.wide) (by simp)) hi⟩
      ·clear hp
       have hT : Fr [c.R, w.heap.size + 1] w5 w6 := Fr.trans (by repeat' (first | (with_reducible first | exact Fr.refl _ _ | refine Fr.setCell ?_ (Or.inl ?_) _ | refine Fr.alloc ?_ _ | refine Fr.drewN ?_ _) | (simp; done))) hf.wide
       have HD6 : Hid (Blk w6 (w.heap.size + 1) 65 #[.string ⟨x1.toArray⟩, .slice p2 n2 k2, .slice p4 n4 k4, .int .i64 0, .int .i64 off]) := Lib.hid ((Blk.alloc HD5.out _).keep hf (by simp; omega))
       have HB6 : Hid (Blk w6 (w.heap.size) 65 #[.string ⟨#[]⟩, .slice none 0 0, .slice none 0 0, .int .i64 0, .int .i64 0]) := Lib.hid (HB5.out.keep hT (by simp; omega))
       have HV2_6 := Lib.hid (row_own HV2_5.out (Nat.le_refl _) hT (by simp; omega))
       have HV4_6 := Lib.hid (row_own HV4_5.out (Nat.le_refl _) hT (by simp; omega))
       have HI6 := Lib.hid hi
       have HF6 := Lib.hid (HF5.out.join hT (by simp))
       have hz6 := hf.size
       try simp at hz6
       clear hT hf hi
       have hlD : w.heap.size + 1 < w6.heap.size := HD6.out.lt
       go_wp2_with fail
       clear hlD
       refine (expect_any c ts5 [[59]] _ _ 1 (by exact HI6.out.fr (X := [w.heap.size + 1]) H.out (by repeat' (first | (with_reducible first | exact Fr.refl _ _ | refine Fr.setCell ?_ (Or.inl ?_) _ | refine Fr.alloc ?_ _ | refine Fr.drewN ?_ _) | (simp; done))) (by simp)) rfl (by exact Blk.new_at (by simp)) rfl (by decide)).mono ?_
       rintro e w9 hp
       rcases hp.cases with ⟨x9, ts9, v9, hq9, hf, hi, rfl, hv⟩ | ⟨ts9, hq9, hf, hi, rfl⟩
       ·clear hp
        obtain rfl := hv
        have hT : Fr [c.R, w.heap.size + 1] w6 w9 := Fr.trans (by repeat' (first | (with_reducible first | exact Fr.refl _ _ | refine Fr.setCell ?_ (Or.inl ?_) _ | refine Fr.alloc ?_ _ | refine Fr.drewN ?_ _) | (simp; done))) hf.wide
        have HD9 : Hid (Blk w9 (w.heap.size + 1) 65 #[.string ⟨x1.toArray⟩, .slice p2 n2 k2, .slice p4 n4 k4, .int .i64 0, .int .i64 off]) := Lib.hid ((Blk.alloc HD6.out _).keep hf (by simp; omega))
        have HB9 : Hid (Blk w9 (w.heap.size) 65 #[.string ⟨#[]⟩, .slice none 0 0, .slice none 0 0, .int .i64 0, .int .i64 0]) := Lib.hid (HB6.out.keep hT (by simp; omega))
        have HV2_9 := Lib.hid (row_own HV2_6.out (Nat.le_refl _) hT (by simp; omega))
        have HV4_9 := Lib.hid (row_own HV4_6.out (Nat.le_refl _) hT (by simp; omega))
        have HI9 := Lib.hid hi
        have HF9 := Lib.hid (HF6.out.join hT (by simp))
        have hz9 := hf.size
        try simp at hz9
        have hl9 : ts9.length ≤ ts5.length := (Shr.expect _).ok hq9.out
        clear hT hf hi
        have hlB : w.heap.size < w9.heap.size := by omega
        have hlD : w.heap.size + 1 < w9.heap.size := HD9.out.lt
        have d0 : w9.cell? ⟨w.heap.size + 1, 0, none⟩ = some (.string ⟨x1.toArray⟩) := HD9.out.cell 0
        have d1 : w9.cell? ⟨w.heap.size + 1, 1, none⟩ = some (.slice p2 n2 k2) := HD9.out.cell 1
        have d2 : w9.cell? ⟨w.heap.size + 1, 2, none⟩ = some (.slice p4 n4 k4) := HD9.out.cell 2
        have d3 : w9.cell? ⟨w.heap.size + 1, 3, none⟩ = some (.int .i64 0) := HD9.out.cell 3
        have d4 : w9.cell? ⟨w.heap.size + 1, 4, none⟩ = some (.int .i64 off) := HD9.out.cell 4
        have b0 : w9.cell? ⟨w.heap.size, 0, none⟩ = some (.string ⟨#[]⟩) := HB9.out.cell 0
        have b1 : w9.cell? ⟨w.heap.size, 1, none⟩ = some (.slice none 0 0) := HB9.out.cell 1
        have b2 : w9.cell? ⟨w.heap.size, 2, none⟩ = some (.slice none 0 0) := HB9.out.cell 2
        have b3 : w9.cell? ⟨w.heap.size, 3, none⟩ = some (.int .i64 0) := HB9.out.cell 3
        have b4 : w9.cell? ⟨w.heap.size, 4, none⟩ = some (.int .i64 0) := HB9.out.cell 4
        have g0 : w9.frozen? ⟨w.heap.size, 0, none⟩ = false := HB9.out.frozen 0
        have g1 : w9.frozen? ⟨w.heap.size, 1, none⟩ = false := HB9.out.frozen 1
        have g2 : w9.frozen? ⟨w.heap.size, 2, none⟩ = false := HB9.out.frozen 2
        have g3 : w9.frozen? ⟨w.heap.size, 3, none⟩ = false := HB9.out.frozen 3
        have g4 : w9.frozen? ⟨w.heap.size, 4, none⟩ = false := HB9.out.frozen 4
        go_wp2_with fail
        refine bodyPost_ret (v := .agg #[.string ⟨x1.toArray⟩, .slice p2 n2 k2, .slice p4 n4 k4, .int .i64 0, .int .i64 off]) (by simp [results, Tryz.results202, go_sem, hlB, hlD, d0, d1, d2, d3, d4, b0, b1, b2, b3, b4, g0, g1, g2, g3, g4]) rfl ?_
        clear hlB hlD d0 d1 d2 d3 d4 b0 b1 b2 b3 b4 g0 g1 g2 g3 g4
        exact RP.ok (a := ⟨x1, x2, x4, 0, off⟩) (by simp only [Px.data, bind, Px.Rd.bind, offset_res, if_true, if_false, Bool.false_eq_true, hq1.out, hq2.out, hq3.out, hq4.out, hq5.out, hq6.out, hq9.out] <;> rfl) (HF9.out.join (X := [w.heap.size + 1, w.heap.size]) (by repeat' (first | (with_reducible first | exact Fr.refl _ _ | refine Fr.setCell ?_ (Or.inl ?_) _ | refine Fr.alloc ?_ _ | refine Fr.drewN ?_ _) | (simp; done))) (by simp)) (HI9.out.fr (X := [w.heap.size + 1, w.heap.size]) H.out (by repeat' (first | (with_reducible first | exact Fr.refl _ _ | refine Fr.setCell ?_ (Or.inl ?_) _ | refine Fr.alloc ?_ _ | refine Fr.drewN ?_ _) | (simp; done))) (by simp)) ⟨[.string ⟨x1.toArray⟩, .slice p2 n2 k2, .slice p4 n4 k4, .int .i64 0, .int .i64 off], rfl, rep_str.2 ⟨_, rfl, rep_sl.2 ⟨_, _, rfl, (row_own (b := w.heap.size) HV2_9.out (by first | omega | (simp; done) | (simp; omega)) (X := [w.heap.size + 1, w.heap.size]) (by repeat' (first | (with_reducible first | exact Fr.refl _ _ | refine Fr.setCell ?_ (Or.inl ?_) _ | refine Fr.alloc ?_ _ | refine Fr.drewN ?_ _) | (simp; done))) (by first | omega | (simp; done) | (simp; omega))), rep_sl.2 ⟨_, _, rfl, (row_own (b := w.heap.size) HV4_9.out (by first | omega | (simp; done) | (simp; omega)) (X := [w.heap.size + 1, w.heap.size]) (by repeat' (first | (with_reducible first | exact Fr.refl _ _ | refine Fr.setCell ?_ (Or.inl ?_) _ | refine Fr.alloc ?_ _ | refine Fr.drewN ?_ _) | (simp; done))) (by first | omega | (simp; done) | (simp; omega))), rep_int.2 ⟨_, rfl, rep_int.2 ⟨_, rfl, rep_nil.2 rfl⟩⟩⟩⟩⟩⟩
       ·go_wp2_with fail
        exact ⟨rfl, RP.bad (by simp only [Px.data, bind, Px.Rd.bind, offset_res, if_true, if_false, Bool.false_eq_true, hq1.out, hq2.out, hq3.out, hq4.out, hq5.out, hq6.out, hq9.out]) (HF6.out.join (X := [w.heap.size + 1]) (Fr.trans (by repeat' (first | (with_reducible first | exact Fr.refl _ _ | refine Fr.setCell ?_ (Or.inl ?_) _ | refine Fr.alloc ?_ _ | refine Fr.drewN ?_ _) | (simp; done))) hf.wide) (by simp)) hi⟩
     ·go_wp2_with fail
      exact ⟨rfl, RP.bad (by simp only [Px.data, bind, Px.Rd.bind, offset_res, if_true, if_false, Bool.false_eq_true, hq1.out, hq2.out, hq3.out, hq4.out, hq5.out]) (HF4.out.join (X := [w.heap.size + 1]) (Fr.trans (by repeat' (first | (with_reducible first | exact Fr.refl _ _ | refine Fr.setCell ?_ (Or.inl ?_) _ | refine Fr.alloc ?_ _ | refine Fr.drewN ?_ _) | (simp; done))) hf.wide) (by simp)) hi⟩
    ·go_wp2_with fail
     exact ⟨rfl, RP.bad (by simp only [Px.data, bind, Px.Rd.bind, offset_res, if_true, if_false, Bool.false_eq_true, hq1.out, hq2.out, hq3.out, hq4.out]) (HF3.out.join (X := [w.heap.size + 1]) (Fr.trans (by repeat' (first | (with_reducible first | exact Fr.refl _ _ | refine Fr.setCell ?_ (Or.inl ?_) _ | refine Fr.alloc ?_ _ | refine Fr.drewN ?_ _) | (simp; done))) hf.wide) (by simp)) hi⟩
   ·go_wp2_with fail
    exact ⟨rfl, RP.bad (by simp only [Px.data, bind, Px.Rd.bind, offset_res, if_true, if_false, Bool.false_eq_true, hq1.out, hq2.out, hq3.out]) (HF2.out.join (X := [w.heap.size + 1]) (Fr.trans (by repeat' (first | (with_reducible first | exact Fr.refl _ _ | refine Fr.setCell ?_ (Or.inl ?_) _ | refine Fr.alloc ?_ _ | refine Fr.drewN ?_ _) | (simp; done))) hf.wide) (by simp)) hi⟩
  ·go_wp2_with fail
   exact ⟨rfl, RP.bad (by simp only [Px.data, bind, Px.Rd.bind, offset_res, if_true, if_false, Bool.false_eq_true, hq1.out, hq2.out]) (HF1.out.join (X := [w.heap.size + 1]) (Fr.trans (by repeat' (first | (with_reducible first | exact Fr.refl _ _ | refine Fr.setCell ?_ (Or.inl ?_) _ | refine Fr.alloc ?_ _ | refine Fr.drewN ?_ _) | (simp; done))) hf.wide) (by simp)) hi⟩
 ·go_wp2_with fail
  exact ⟨rfl, RP.bad (by simp only [Px.data, bind, Px.Rd.bind, offset_res, if_true, if_false, Bool.false_eq_true, hq1.out]) ((Fr.refl [c.R] w).join (X := [w.heap.size + 1]) (Fr.trans (by repeat' (first | (with_reducible first | exact Fr.refl _ _ | refine Fr.setCell ?_ (Or.inl ?_) _ | refine Fr.alloc ?_ _ | refine Fr.drewN ?_ _) | (simp; done))) hf.wide) (by simp)) hi⟩
set_option maxRecDepth 100000 in
set_option maxHeartbeats 1600000 in
theorem trait_any (c : Ctx) (off : Nat) (ts : List Tk) (w : World) (h : Inv c ts w) :
  Calls Tryz.prog 203 #[.pointer (some ⟨c.R, 0, none⟩), .int .i64 off] w (RP c w (okAgg traitQ) (Px.trait off ts)) := by
 have H := Lib.hid h
 have HR0 := H.out.lt.1
 clear h
 go_enter Tryz.func203, Tryz.ntmps203
 go_wp2_with fail
 refine (name_any c ts _ (by exact H.out.fr (X := [w.heap.size + 1]) H.out (by repeat' (first | (with_reducible first | exact Fr.refl _ _ | refine Fr.setCell ?_ (Or.inl ?_) _ | refine Fr.alloc ?_ _ | refine Fr.drewN ?_ _) | (simp; done))) (by simp))).mono ?_
 rintro e w1 hp
 rcases hp.cases with ⟨x1, ts1, v1, hq1, hf, hi, rfl, hv⟩ | ⟨ts1, hq1, hf, hi, rfl⟩
 ·clear hp
  obtain rfl := hv
  have hT : Fr [c.R, w.heap.size + 1] w w1 := Fr.trans (by repeat' (first | (with_reducible first | exact Fr.refl _ _ | refine Fr.setCell ?_ (Or.inl ?_) _ | refine Fr.alloc ?_ _ | refine Fr.drewN ?_ _) | (simp; done))) hf.wide
  have HD1 : Hid (Blk w1 (w.heap.size + 1) 61 #[.string ⟨#[]⟩, .int .i64 off]) := Lib.hid ((Blk.new_at (by simp)).keep hf (by simp; omega))
  have HB1 : Hid (Blk w1 (w.heap.size) 61 #[.string ⟨#[]⟩, .int .i64 0]) := Lib.hid ((Blk.alloc (Blk.new w _ _) _).keep hf (by simp; omega))
  have HI1 := Lib.hid hi
  have HF1 := Lib.hid ((Fr.refl [c.R] w).join hT (by simp))
  have hz1 := hf.size
  try simp at hz1
  have hl1 : ts1.length < ts.length := Strict.name _ _ _ hq1.out
  clear hT hf hi
  have hlD : w.heap.size + 1 < w1.heap.size := HD1.out.lt
  have d0 : w1.cell? ⟨w.heap.size + 1, 0, none⟩ = some (.string ⟨#[]⟩) := HD1.out.cell 0
  have f0 : w1.frozen? ⟨w.heap.size + 1, 0, none⟩ = false := HD1.out.frozen 0
  go_wp2_with fail
  clear hlD d0 f0
  refine (expect_any c ts1 [[59]] _ _ 1 (by exact HI1.out.fr (X := [w.heap.size + 1]) H.out (by repeat' (first | (with_reducible first | exact Fr.refl _ _ | refine Fr.setCell ?_ (Or.inl ?_) _ | refine Fr.alloc ?_ _ | refine Fr.drewN ?_ _) | (simp; done))) (by simp)) rfl (by exact Blk.new_at (by simp)) rfl (by decide)).mono ?_
  rintro e w2 hp
  rcases hp.cases with ⟨x2, ts2, v2, hq2, hf, hi, rfl, hv⟩ | ⟨ts2, hq2, hf, hi, rfl⟩
  ·clear hp
   obtain rfl := hv
   have hT : Fr [c.R, w.heap.size + 1] w1 w2 := Fr.trans (by repeat' (first | (with_reducible first | exact Fr.refl _ _ | refine Fr.setCell ?_ (Or.inl ?_) _ | refine Fr.alloc ?_ _ | refine Fr.drewN ?_ _) | (simp; done))) hf.wide
   have HD2 : Hid (Blk w2 (w.heap.size + 1) 61 #[.string ⟨x1.toArray⟩, .int .i64 off]) := Lib.hid ((Blk.alloc (HD1.out.set 0 (.string ⟨x1.toArray⟩)) _).keep hf (by simp; omega))
   have HB2 : Hid (Blk w2 (w.heap.size) 61 #[.string ⟨#[]⟩, .int .i64 0]) := Lib.hid (HB1.out.keep hT (by simp; omega))
   have HI2 := Lib.hid hi
   have HF2 := Lib.hid (HF1.out.join hT (by simp))
   have hz2 := hf.size
   try simp at hz2
   have hl2 : ts2.length ≤ ts1.length := (Shr.expect _).ok hq2.out
   clear hT hf hi
   have hlB : w.heap.size < w2.heap.size := by omega
   have hlD : w.heap.size + 1 < w2.heap.size := HD2.out.lt
   have d0 : w2.cell? ⟨w.heap.size + 1, 0, none⟩ = some (.string ⟨x1.toArray⟩) := HD2.out.cell 0
   have d1 : w2.cell? ⟨w.heap.size + 1, 1, none⟩ = some (.int .i64 off) := HD2.out.cell 1
   have b0 : w2.cell? ⟨w.heap.size, 0, none⟩ = some (.string ⟨#[]⟩) := HB2.out.cell 0
   have b1 : w2.cell? ⟨w.heap.size, 1, none⟩ = some (.int .i64 0) := HB2.out.cell 1
   have g0 : w2.frozen? ⟨w.heap.size, 0, none⟩ = false := HB2.out.frozen 0
   have g1 : w2.frozen? ⟨w.heap.size, 1, none⟩ = false := HB2.out.frozen 1
   go_wp2_with fail
   refine bodyPost_ret (v := .agg #[.string ⟨x1.toArray⟩, .int .i64 off]) (by simp [results, Tryz.results203, go_sem, hlB, hlD, d0, d1, b0, b1, g0, g1]) rfl ?_
   clear hlB hlD d0 d1 b0 b1 g0 g1
   exact RP.ok (a := ⟨x1, off⟩) (by simp only [Px.trait, bind, Px.Rd.bind, offset_res, if_true, if_false, Bool.false_eq_true, hq1.out, hq2.out] <;> rfl) (HF2.out.join (X := [w.heap.size + 1, w.heap.size]) (by repeat' (first | (with_reducible first | exact Fr.refl _ _ | refine Fr.setCell ?_ (Or.inl ?_) _ | refine Fr.alloc ?_ _ | refine Fr.drewN ?_ _) | (simp; done))) (by simp)) (HI2.out.fr (X := [w.heap.size + 1, w.heap.size]) H.out (by repeat' (first | (with_reducible first | exact Fr.refl _ _ | refine Fr.setCell ?_ (Or.inl ?_) _ | refine Fr.alloc ?_ _ | refine Fr.drewN ?_ _) | (simp; done))) (by simp)) ⟨[.string ⟨x1.toArray⟩, .int .i64 off], rfl, rep_str.2 ⟨_, rfl, rep_int.2 ⟨_, rfl, rep_nil.2 rfl⟩⟩⟩
  ·go_wp2_with fail
   exact ⟨rfl, RP.bad (by simp only [Px.trait, bind, Px.Rd.bind, offset_res, if_true, if_false, Bool.false_eq_true, hq1.out, hq2.out]) (HF1.out.join (X := [w.heap.size + 1]) (Fr.trans (by repeat' (first | (with_reducible first | exact Fr.refl _ _ | refine Fr.setCell ?_ (Or.inl ?_) _ | refine Fr.alloc ?_ _ | refine Fr.drewN ?_ _) | (simp; done))) hf.wide) (by simp)) hi⟩
 ·go_wp2_with fail
  exact ⟨rfl, RP.bad (by simp only [Px.trait, bind, Px.Rd.bind, offset_res, if_true, if_false, Bool.false_eq_true, hq1.out]) ((Fr.refl [c.R] w).join (X := [w.heap.size + 1]) (Fr.trans (by repeat' (first | (with_reducible first | exact Fr.refl _ _ | refine Fr.setCell ?_ (Or.inl ?_) _ | refine Fr.alloc ?_ _ | refine Fr.drewN ?_ _) | (simp; done))) hf.wide) (by simp)) hi⟩
set_option maxRecDepth 100000 in
set_option maxHeartbeats 1600000 in
theorem implementation_any (c : Ctx) (off : Nat) (ts : List Tk) (w : World) (h : Inv c ts w) (n : Nat) (hty : Reads c 189 n (okAgg typeQ) (Px.typeF c.size n)) (hm : ts.length < n) :
  Calls Tryz.prog 204 #[.pointer (some ⟨c.R, 0, none⟩), .int .i64 off] w (RP c w (okAgg implQ) (Px.implementation c.size n off ts)) := by
 have HTY : Hid (Reads c 189 n (okAgg typeQ) (Px.typeF c.size n)) := Lib.hid hty
 clear hty
 have hmf := make_func
 have H := Lib.hid h
 have HR0 := H.out.lt.1
 clear h
 go_enter Tryz.func204, Tryz.ntmps204
 go_wp2_with fail
 refine (params_any c ts _ (by exact H.out.fr (X := [w.heap.size + 1]) H.out (by repeat' (first | (with_reducible first | exact Fr.refl _ _ | refine Fr.setCell ?_ (Or.inl ?_) _ | refine Fr.alloc ?_ _ | refine Fr.drewN ?_ _) | (simp; done))) (by simp))).mono ?_
 rintro e w1 hp
 rcases hp.cases with ⟨x1, ts1, v1, hq1, hf, hi, rfl, hv⟩ | ⟨ts1, hq1, hf, hi, rfl⟩
 ·clear hp
  obtain ⟨p1, n1, k1, rfl⟩ := row_shp hv
  have hV1 := row_own (b := w.heap.size + 2) hv (by first | omega | (simp; done) | (simp; omega)) (Fr.refl [] _) (by simp)
  have hT : Fr [c.R, w.heap.size + 1] w w1 := Fr.trans (by repeat' (first | (with_reducible first | exact Fr.refl _ _ | refine Fr.setCell ?_ (Or.inl ?_) _ | refine Fr.alloc ?_ _ | refine Fr.drewN ?_ _) | (simp; done))) hf.wide
  have HD1 : Hid (Blk w1 (w.heap.size + 1) 89 #[.string ⟨#[]⟩, .slice none 0 0, .slice none 0 0, .string ⟨#[]⟩, .slice none 0 0, .int .i64 0, .string ⟨#[]⟩, .int .i64 off]) := Lib.hid ((Blk.new_at (by simp)).keep hf (by simp; omega))
  have HB1 : Hid (Blk w1 (w.heap.size) 89 #[.string ⟨#[]⟩, .slice none 0 0, .slice none 0 0, .string ⟨#[]⟩, .slice none 0 0, .int .i64 0, .string ⟨#[]⟩, .int .i64 0]) := Lib.hid ((Blk.alloc (Blk.new w _ _) _).keep hf (by simp; omega))
  have HI1 := Lib.hid hi
  have HF1 := Lib.hid ((Fr.refl [c.R] w).join hT (by simp))
  have hz1 := hf.size
  try simp at hz1
  have HV1 := Lib.hid hV1
  have hl1 : ts1.length ≤ ts.length := (shr_params).ok hq1.out
  clear hT hf hi hV1 hv
  have hlD : w.heap.size + 1 < w1.heap.size := HD1.out.lt
  have d1 : w1.cell? ⟨w.heap.size + 1, 1, none⟩ = some (.slice none 0 0) := HD1.out.cell 1
  have f1 : w1.frozen? ⟨w.heap.size + 1, 1, none⟩ = false := HD1.out.frozen 1
  go_wp2_with fail
  clear hlD d1 f1
  refine (name_any c ts1 _ (by exact HI1.out.fr (X := [w.heap.size + 1]) H.out (by repeat' (first | (with_reducible first | exact Fr.refl _ _ | refine Fr.setCell ?_ (Or.inl ?_) _ | refine Fr.alloc ?_ _ | refine Fr.drewN ?_ _) | (simp; done))) (by simp))).mono ?_
  rintro e w2 hp
  rcases hp.cases with ⟨x2, ts2, v2, hq2, hf, hi, rfl, hv⟩ | ⟨ts2, hq2, hf, hi, rfl⟩
  ·clear hp
   obtain rfl := hv
   have hT : Fr [c.R, w.heap.size + 1] w1 w2 := Fr.trans (by repeat' (first | (with_reducible first | exact Fr.refl _ _ | refine Fr.setCell ?_ (Or.inl ?_) _ | refine Fr.alloc ?_ _ | refine Fr.drewN ?_ _) | (simp; done))) hf.wide
   have HD2 : Hid (Blk w2 (w.heap.size + 1) 89 #[.string ⟨#[]⟩, .slice p1 n1 k1, .slice none 0 0, .string ⟨#[]⟩, .slice none 0 0, .int .i64 0, .string ⟨#[]⟩, .int .i64 off]) := Lib.hid ((HD1.out.set 1 (.slice p1 n1 k1)).keep hf (by simp; omega))
   have HB2 : Hid (Blk w2 (w.heap.size) 89 #[.string ⟨#[]⟩, .slice none 0 0, .slice none 0 0, .string ⟨#[]⟩, .slice none 0 0, .int .i64 0, .string ⟨#[]⟩, .int .i64 0]) := Lib.hid (HB1.out.keep hT (by simp; omega))
   have HV1_2 := Lib.hid (row_own HV1.out (Nat.le_refl _) hT (by simp; omega))
   have HI2 := Lib.hid hi
   have HF2 := Lib.hid (HF1.out.join hT (by simp))
   have hz2 := hf.size
   try simp at hz2
   have hl2 : ts2.length < ts1.length := Strict.name _ _ _ hq2.out
   clear hT hf hi
   have hlD : w.heap.size + 1 < w2.heap.size := HD2.out.lt
   have d0 : w2.cell? ⟨w.heap.size + 1, 0, none⟩ = some (.string ⟨#[]⟩) := HD2.out.cell 0
   have f0 : w2.frozen? ⟨w.heap.size + 1, 0, none⟩ = false := HD2.out.frozen 0
   go_wp2_with fail
   clear hlD d0 f0
   refine (expect_any c ts2 [[102, 111, 114]] _ _ 1 (by exact HI2.out.fr (X := [w.heap.size + 1]) H.out (by repeat' (first | (with_reducible first | exact Fr.refl _ _ | refine Fr.setCell ?_ (Or.inl ?_) _ | refine Fr.alloc ?_ _ | refine Fr.drewN ?_ _) | (simp; done))) (by simp)) rfl (by exact Blk.new_at (by simp)) rfl (by decide)).mono ?_
   rintro e w3 hp
   rcases hp.cases with ⟨x3, ts3, v3, hq3, hf, hi, rfl, hv⟩ | ⟨ts3, hq3, hf, hi, rfl⟩
   ·clear hp
    obtain rfl := hv
    have hT : Fr [c.R, w.heap.size + 1] w2 w3 := Fr.trans (by repeat' (first | (with_reducible first | exact Fr.refl _ _ | refine Fr.setCell ?_ (Or.inl ?_) _ | refine Fr.alloc ?_ _ | refine Fr.drewN ?_ _) | (simp; done))) hf.wide
    have HD3 : Hid (Blk w3 (w.heap.size + 1) 89 #[.string ⟨x2.toArray⟩, .slice p1 n1 k1, .slice none 0 0, .string ⟨#[]⟩, .slice none 0 0, .int .i64 0, .string ⟨#[]⟩, .int .i64 off]) := Lib.hid ((Blk.alloc (HD2.out.set 0 (.string ⟨x2.toArray⟩)) _).keep hf (by simp; omega))
    have HB3 : Hid (Blk w3 (w.heap.size) 89 #[.string ⟨#[]⟩, .slice none 0 0, .slice none 0 0, .string ⟨#[]⟩, .slice none 0 0, .int .i64 0, .string ⟨#[]⟩, .int .i64 0]) := Lib.hid (HB2.out.keep hT (by simp; omega))
    have HV1_3 := Lib.hid (row_own HV1_2.out (Nat.le_refl _) hT (by simp; omega))
    have HI3 := Lib.hid hi
    have HF3 := Lib.hid (HF2.out.join hT (by simp))
    have hz3 := hf.size
    try simp at hz3
    have hl3 : ts3.length ≤ ts2.length := (Shr.expect _).ok hq3.out
    clear hT hf hi
    have hlD : w.heap.size + 1 < w3.heap.size := HD3.out.lt
    go_wp2_with fail
    clear hlD
    refine (HTY.out ts3 _ (by exact HI3.out.fr (X := [w.heap.size + 1]) H.out (by repeat' (first | (with_reducible first | exact Fr.refl _ _ | refine Fr.setCell ?_ (Or.inl ?_) _ | refine Fr.alloc ?_ _ | refine Fr.drewN ?_ _) | (simp; done))) (by simp)) (by omega)).mono ?_
    rintro e w4 hp
    rcases hp.cases with ⟨x4, ts4, v4, hq4, hf, hi, rfl, hv⟩ | ⟨ts4, hq4, hf, hi, rfl⟩
    ·clear hp
     obtain ⟨cs, rfl, hrep⟩ := hv
     obtain ⟨y4_0, y4_1, y4_2, rfl⟩ := cells_3 (hrep.len.trans (len_typeQ x4))
     obtain ⟨s4_0, rfl⟩ := hrep.kind 0 rfl (kind_typeQ x4 0 rfl)
     obtain ⟨p4_1, n4_1, c4_1, rfl⟩ := hrep.kind 1 rfl (kind_typeQ x4 1 rfl)
     obtain ⟨i4_2, rfl⟩ := hrep.kind 2 rfl (kind_typeQ x4 2 rfl)
     have hV4 : Rep w4 (fun k => w.heap.size + 2 ≤ k) _ _ := hrep.mono (fun k hk _ => ⟨by (try simp at hk); omega, rfl⟩)
     have hT : Fr [c.R, w.heap.size + 1] w3 w4 := Fr.trans (by repeat' (first | (with_reducible first | exact Fr.refl _ _ | refine Fr.setCell ?_ (Or.inl ?_) _ | refine Fr.alloc ?_ _ | refine Fr.drewN ?_ _) | (simp; done))) hf.wide
     have HD4 : Hid (Blk w4 (w.heap.size + 1) 89 #[.string ⟨x2.toArray⟩, .slice p1 n1 k1, .slice none 0 0, .string ⟨#[]⟩, .slice none 0 0, .int .i64 0, .string ⟨#[]⟩, .int .i64 off]) := Lib.hid (HD3.out.keep hf (by simp; omega))
     have HB4 : Hid (Blk w4 (w.heap.size) 89 #[.string ⟨#[]⟩, .slice none 0 0, .slice none 0 0, .string ⟨#[]⟩, .slice none 0 0, .int .i64 0, .string ⟨#[]⟩, .int .i64 0]) := Lib.hid (HB3.out.keep hT (by simp; omega))
     have HV1_4 := Lib.hid (row_own HV1_3.out (Nat.le_refl _) hT (by simp; omega))
     have HI4 := Lib.hid hi
     have HF4 := Lib.hid (HF3.out.join hT (by simp))
     have hz4 := hf.size
     try simp at hz4
     have HV4 := Lib.hid hV4
     have hl4 : ts4.length ≤ ts3.length := (shr_typeF _ _).ok hq4.out
     clear hT hf hi hV4 hrep
     have hlD : w.heap.size + 1 < w4.heap.size := HD4.out.lt
     have d3 : w4.cell? ⟨w.heap.size + 1, 3, none⟩ = some (.string ⟨#[]⟩) := HD4.out.cell 3
     have d4 : w4.cell? ⟨w.heap.size + 1, 4, none⟩ = some (.slice none 0 0) := HD4.out.cell 4
     have d5 : w4.cell? ⟨w.heap.size + 1, 5, none⟩ = some (.int .i64 0) := HD4.out.cell 5
     have f3 : w4.frozen? ⟨w.heap.size + 1, 3, none⟩ = false := HD4.out.frozen 3
     have f4 : w4.frozen? ⟨w.heap.size + 1, 4, none⟩ = false := HD4.out.frozen 4
     have f5 : w4.frozen? ⟨w.heap.size + 1, 5, none⟩ = false := HD4.out.frozen 5
     go_wp2_with fail
     clear hlD d3 d4 d5 f3 f4 f5
     refine (bounds_any c ts4 _ (by exact HI4.out.fr (X := [w.heap.size + 1]) H.out (by repeat' (first | (with_reducible first | exact Fr.refl _ _ | refine Fr.setCell ?_ (Or.inl ?_) _ | refine Fr.alloc ?_ _ | refine Fr.drewN ?_ _) | (simp; done))) (by simp))).mono ?_
     rintro e w5 hp
     rcases hp.cases with ⟨x5, ts5, v5, hq5, hf, hi, rfl, hv⟩ | ⟨ts5, hq5, hf, hi, rfl⟩
     ·clear hp
      obtain ⟨p5, n5, k5, rfl⟩ := row_shp hv
      have hV5 := row_own (b := w.heap.size + 2) hv (by first | omega | (simp; done) | (simp; omega)) (Fr.refl [] _) (by simp)
      have hT : Fr [c.R, w.heap.size + 1] w4 w5 := Fr.trans (by repeat' (first | (with_reducible first | exact Fr.refl _ _ | refine Fr.setCell ?_ (Or.inl ?_) _ | refine Fr.alloc ?_ _ | refine Fr.drewN ?_ _) | (simp; done))) hf.wide
      have HD5 : Hid (Blk w5 (w.heap.size + 1) 89 #[.string ⟨x2.toArray⟩, .slice p1 n1 k1, .slice none 0 0, .string s4_0, .slice p4_1 n4_1 c4_1, .int .i64 i4_2, .string ⟨#[]⟩, .int .i64 off]) := Lib.hid ((((HD4.out.set 3 (.string s4_0)).set 4 (.slice p4_1 n4_1 c4_1)).set 5 (.int .i64 i4_2)).keep hf (by simp; omega))
      have HB5 : Hid (Blk w5 (w.heap.size) 89 #[.string ⟨#[]⟩, .slice none 0 0, .slice none 0 0, .string ⟨#[]⟩, .slice none 0 0, .int .i64 0, .string ⟨#[]⟩, .int .i64 0]) := Lib.hid (HB4.out.keep hT (by simp; omega))
      have HV1_5 := Lib.hid (row_own HV1_4.out (Nat.le_refl _) hT (by simp; omega))
      have HV4_5 := Lib.hid (rep_own HV4.out hT (by simp; omega))
      have HI5 := Lib.hid hi
      have HF5 := Lib.hid (HF4.out.join hT (by simp))
      have hz5 := hf.size
      try simp at hz5
      have HV5 := Lib.hid hV5
      have hl5 : ts5.length ≤ ts4.length := (shr_bounds _).ok hq5.out
      clear hT hf hi hV5 hv
      have hlD : w.heap.size + 1 < w5.heap.size := HD5.out.lt
      have d2 : w5.cell? ⟨w.heap.size + 1, 2, none⟩ = some (.slice none 0 0) := HD5.out.cell 2
      have f2 : w5.frozen? ⟨w.heap.size + 1, 2, none⟩ = false := HD5.out.frozen 2
      go_wp2_with fail
      clear hlD d2 f2
      refine (expect_any c ts5 [[61]] _ _ 1 (by exact HI5.out.fr (X := [w.heap.size + 1]) H.out (by repeat' (first | (with_reducible first | exact Fr.refl _ _ | refine Fr.setCell ?_ (Or.inl ?_) _ | refine Fr.alloc ?_ _ | refine Fr.drewN ?_ _) | (simp; done))) (by simp)) rfl (by exact Blk.new_at (by simp)) rfl (by decide)).mono ?_
      rintro e w6 hp
      rcases hp.cases with ⟨x6, ts6, v6, hq6, hf, hi, rfl, hv⟩ | ⟨ts6, hq6, hf, hi, rfl⟩
      ·clear hp
       obtain rfl := hv
       have hT : Fr [c.R, w.heap.size + 1] w5 w6 := Fr.trans (by repeat' (first | (with_reducible first | exact Fr.refl _ _ | refine Fr.setCell ?_ (Or.inl ?_) _ | refine Fr.alloc ?_ _ | refine Fr.drewN ?_ _) | (simp; done))) hf.wide
       have HD6 : Hid (Blk w6 (w.heap.size + 1) 89 #[.string ⟨x2.toArray⟩, .slice p1 n1 k1, .slice p5 n5 k5, .string s4_0, .slice p4_1 n4_1 c4_1, .int .i64 i4_2, .string ⟨#[]⟩, .int .i64 off]) := Lib.hid ((Blk.alloc (HD5.out.set 2 (.slice p5 n5 k5)) _).keep hf (by simp; omega))
       have HB6 : Hid (Blk w6 (w.heap.size) 89 #[.string ⟨#[]⟩, .slice none 0 0, .slice none 0 0, .string ⟨#[]⟩, .slice none 0 0, .int .i64 0, .string ⟨#[]⟩, .int .i64 0]) := Lib.hid (HB5.out.keep hT (by simp; omega))
       have HV1_6 := Lib.hid (row_own HV1_5.out (Nat.le_refl _) hT (by simp; omega))
       have HV4_6 := Lib.hid (rep_own HV4_5.out hT (by simp; omega))
       have HV5_6 := Lib.hid (row_own HV5.out (Nat.le_refl _) hT (by simp; omega))
       have HI6 := Lib.hid hi
       have HF6 := Lib.hid (HF5.out.join hT (by simp))
       have hz6 := hf.size
       try simp at hz6
       have hl6 : ts6.length ≤ ts5.length := (Shr.expect _).ok hq6.out
       clear hT hf hi
       have hlD : w.heap.size + 1 < w6.heap.size := HD6.out.lt
       go_wp2_with fail
       clear hlD
       refine (name_any c ts6 _ (by exact HI6.out.fr (X := [w.heap.size + 1]) H.out (by repeat' (first | (with_reducible first | exact Fr.refl _ _ | refine Fr.setCell ?_ (Or.inl ?_) _ | refine Fr.alloc ?_ _ | refine Fr.drewN ?_ _) | (simp; done))) (by simp))).mono ?_
       rintro e w7 hp
       rcases hp.cases with ⟨x7, ts7, v7, hq7, hf, hi, rfl, hv⟩ | ⟨ts7, hq7, hf, hi, rfl⟩
       ·clear hp
        obtain rfl := hv
        have hT : Fr [c.R, w.heap.size + 1] w6 w7 := Fr.trans (by repeat' (first | (with_reducible first | exact Fr.refl _ _ | refine Fr.setCell ?_ (Or.inl ?_) _ | refine Fr.alloc ?_ _ | refine Fr.drewN ?_ _) | (simp; done))) hf.wide
        have HD7 : Hid (Blk w7 (w.heap.size + 1) 89 #[.string ⟨x2.toArray⟩, .slice p1 n1 k1, .slice p5 n5 k5, .string s4_0, .slice p4_1 n4_1 c4_1, .int .i64 i4_2, .string ⟨#[]⟩, .int .i64 off]) := Lib.hid (HD6.out.keep hf (by simp; omega))
        have HB7 : Hid (Blk w7 (w.heap.size) 89 #[.string ⟨#[]⟩, .slice none 0 0, .slice none 0 0, .string ⟨#[]⟩, .slice none 0 0, .int .i64 0, .string ⟨#[]⟩, .int .i64 0]) := Lib.hid (HB6.out.keep hT (by simp; omega))
        have HV1_7 := Lib.hid (row_own HV1_6.out (Nat.le_refl _) hT (by simp; omega))
        have HV4_7 := Lib.hid (rep_own HV4_6.out hT (by simp; omega))
        have HV5_7 := Lib.hid (row_own HV5_6.out (Nat.le_refl _) hT (by simp; omega))
        have HI7 := Lib.hid hi
        have HF7 := Lib.hid (HF6.out.join hT (by simp))
        have hz7 := hf.size
        try simp at hz7
        have hl7 : ts7.length < ts6.length := Strict.name _ _ _ hq7.out
        clear hT hf hi
        have hlD : w.heap.size + 1 < w7.heap.size := HD7.out.lt
        have d6 : w7.cell? ⟨w.heap.size + 1, 6, none⟩ = some (.string ⟨#[]⟩) := HD7.out.cell 6
        have f6 : w7.frozen? ⟨w.heap.size + 1, 6, none⟩ = false := HD7.out.frozen 6
        go_wp2_with fail
        clear hlD d6 f6
        refine (expect_any c ts7 [[59]] _ _ 1 (by exact HI7.out.fr (X := [w.heap.size + 1]) H.out (by repeat' (first | (with_reducible first | exact Fr.refl _ _ | refine Fr.setCell ?_ (Or.inl ?_) _ | refine Fr.alloc ?_ _ | refine Fr.drewN ?_ _) | (simp; done))) (by simp)) rfl (by exact Blk.new_at (by simp)) rfl (by decide)).mono ?_
        rintro e w8 hp
        rcases hp.cases with ⟨x8, ts8, v8, hq8, hf, hi, rfl, hv⟩ | ⟨ts8, hq8, hf, hi, rfl⟩
        ·clear hp
         obtain rfl := hv
         have hT : Fr [c.R, w.heap.size + 1] w7 w8 := Fr.trans (by repeat' (first | (with_reducible first | exact Fr.refl _ _ | refine Fr.setCell ?_ (Or.inl ?_) _ | refine Fr.alloc ?_ _ | refine Fr.drewN ?_ _) | (simp; done))) hf.wide
         have HD8 : Hid (Blk w8 (w.heap.size + 1) 89 #[.string ⟨x2.toArray⟩, .slice p1 n1 k1, .slice p5 n5 k5, .string s4_0, .slice p4_1 n4_1 c4_1, .int .i64 i4_2, .string ⟨x7.toArray⟩, .int .i64 off]) := Lib.hid ((Blk.alloc (HD7.out.set 6 (.string ⟨x7.toArray⟩)) _).keep hf (by simp; omega))
         have HB8 : Hid (Blk w8 (w.heap.size) 89 #[.string ⟨#[]⟩, .slice none 0 0, .slice none 0 0, .string ⟨#[]⟩, .slice none 0 0, .int .i64 0, .string ⟨#[]⟩, .int .i64 0]) := Lib.hid (HB7.out.keep hT (by simp; omega))
         have HV1_8 := Lib.hid (row_own HV1_7.out (Nat.le_refl _) hT (by simp; omega))
         have HV4_8 := Lib.hid (rep_own HV4_7.out hT (by simp; omega))
         have HV5_8 := Lib.hid (row_own HV5_7.out (Nat.le_refl _) hT (by simp; omega))
         have HI8 := Lib.hid hi
         have HF8 := Lib.hid (HF7.out.join hT (by simp))
         have hz8 := hf.size
         try simp at hz8
         have hl8 : ts8.length ≤ ts7.length := (Shr.expect _).ok hq8.out
         clear hT hf hi
         have hlB : w.heap.size < w8.heap.size := by omega
         have hlD : w.heap.size + 1 < w8.heap.size := HD8.out.lt
         have d0 : w8.cell? ⟨w.heap.size + 1, 0, none⟩ = some (.string ⟨x2.toArray⟩) := HD8.out.cell 0
         have d1 : w8.cell? ⟨w.heap.size + 1, 1, none⟩ = some (.slice p1 n1 k1) := HD8.out.cell 1
         have d2 : w8.cell? ⟨w.heap.size + 1, 2, none⟩ = some (.slice p5 n5 k5) := HD8.out.cell 2
         have d3 : w8.cell? ⟨w.heap.size + 1, 3, none⟩ = some (.string s4_0) := HD8.out.cell 3
         have d4 : w8.cell? ⟨w.heap.size + 1, 4, none⟩ = some (.slice p4_1 n4_1 c4_1) := HD8.out.cell 4
         have d5 : w8.cell? ⟨w.heap.size + 1, 5, none⟩ = some (.int .i64 i4_2) := HD8.out.cell 5
         have d6 : w8.cell? ⟨w.heap.size + 1, 6, none⟩ = some (.string ⟨x7.toArray⟩) := HD8.out.cell 6
         have d7 : w8.cell? ⟨w.heap.size + 1, 7, none⟩ = some (.int .i64 off) := HD8.out.cell 7
         have b0 : w8.cell? ⟨w.heap.size, 0, none⟩ = some (.string ⟨#[]⟩) := HB8.out.cell 0
         have b1 : w8.cell? ⟨w.heap.size, 1, none⟩ = some (.slice none 0 0) := HB8.out.cell 1
         have b2 : w8.cell? ⟨w.heap.size, 2, none⟩ = some (.slice none 0 0) := HB8.out.cell 2
         have b3 : w8.cell? ⟨w.heap.size, 3, none⟩ = some (.string ⟨#[]⟩) := HB8.out.cell 3
         have b4 : w8.cell? ⟨w.heap.size, 4, none⟩ = some (.slice none 0 0) := HB8.out.cell 4
         have b5 : w8.cell? ⟨w.heap.size, 5, none⟩ = some (.int .i64 0) := HB8.out.cell 5
         have b6 : w8.cell? ⟨w.heap.size, 6, none⟩ = some (.string ⟨#[]⟩) := HB8.out.cell 6
         have b7 : w8.cell? ⟨w.heap.size, 7, none⟩ = some (.int .i64 0) := HB8.out.cell 7
         have g0 : w8.frozen? ⟨w.heap.size, 0, none⟩ = false := HB8.out.frozen 0
         have g1 : w8.frozen? ⟨w.heap.size, 1, none⟩ = false := HB8.out.frozen 1
         have g2 : w8.frozen? ⟨w.heap.size, 2, none⟩ = false := HB8.out.frozen 2
         have g3 : w8.frozen? ⟨w.heap.size, 3, none⟩ = false := HB8.out.frozen 3
         have g4 : w8.frozen? ⟨w.heap.size, 4, none⟩ = false := HB8.out.frozen 4
         have g5 : w8.frozen? ⟨w.heap.size, 5, none⟩ = false := HB8.out.frozen 5
         have g6 : w8.frozen? ⟨w.heap.size, 6, none⟩ = false := HB8.out.frozen 6
         have g7 : w8.frozen? ⟨w.heap.size, 7, none⟩ = false := HB8.out.frozen 7
         go_wp2_with fail
         refine bodyPost_ret (v := .agg #[.string ⟨x2.toArray⟩, .slice p1 n1 k1, .slice p5 n5 k5, .string s4_0, .slice p4_1 n4_1 c4_1, .int .i64 i4_2, .string ⟨x7.toArray⟩, .int .i64 off]) (by simp [results, Tryz.results204, go_sem, hlB, hlD, d0, d1, d2, d3, d4, d5, d6, d7, b0, b1, b2, b3, b4, b5, b6, b7, g0, g1, g2, g3, g4, g5, g6, g7]) rfl ?_
         clear hlB hlD d0 d1 d2 d3 d4 d5 d6 d7 b0 b1 b2 b3 b4 b5 b6 b7 g0 g1 g2 g3 g4 g5 g6 g7
         exact RP.ok (a := ⟨x2, x1, x5, x4, x7, off⟩) (by simp only [Px.implementation, bind, Px.Rd.bind, offset_res, if_true, if_false, Bool.false_eq_true, hq1.out, hq2.out, hq3.out, hq4.out, hq5.out, hq6.out, hq7.out, hq8.out] <;> rfl) (HF8.out.join (X := [w.heap.size + 1, w.heap.size]) (by repeat' (first | (with_reducible first | exact Fr.refl _ _ | refine Fr.setCell ?_ (Or.inl ?_) _ | refine Fr.alloc ?_ _ | refine Fr.drewN ?_ _) | (simp; done))) (by simp)) (HI8.out.fr (X := [w.heap.size + 1, w.heap.size]) H.out (by repeat' (first | (with_reducible first | exact Fr.refl _ _ | refine Fr.setCell ?_ (Or.inl ?_) _ | refine Fr.alloc ?_ _ | refine Fr.drewN ?_ _) | (simp; done))) (by simp)) ⟨[.string ⟨x2.toArray⟩, .slice p1 n1 k1, .slice p5 n5 k5, .string s4_0, .slice p4_1 n4_1 c4_1, .int .i64 i4_2, .string ⟨x7.toArray⟩, .int .i64 off], rfl, rep_str.2 ⟨_, rfl, rep_sl.2 ⟨_, _, rfl, (row_own (b := w.heap.size) HV1_8.out (by first | omega | (simp; done) | (simp; omega)) (X := [w.heap.size + 1, w.heap.size]) (by repeat' (first | (with_reducible first | exact Fr.refl _ _ | refine Fr.setCell ?_ (Or.inl ?_) _ | refine Fr.alloc ?_ _ | refine Fr.drewN ?_ _) | (simp; done))) (by first | omega | (simp; done) | (simp; omega))), rep_sl.2 ⟨_, _, rfl, (row_own (b := w.heap.size) HV5_8.out (by first | omega | (simp; done) | (simp; omega)) (X := [w.heap.size + 1, w.heap.size]) (by repeat' (first | (with_reducible first | exact Fr.refl _ _ | refine Fr.setCell ?_ (Or.inl ?_) _ | refine Fr.alloc ?_ _ | refine Fr.drewN ?_ _) | (simp; done))) (by first | omega | (simp; done) | (simp; omega))), Rep.app (cs := [.string s4_0, .slice p4_1 n4_1 c4_1, .int .i64 i4_2]) (rep_own (b := w.heap.size) HV4_8.out (X := [w.heap.size + 1, w.heap.size]) (by repeat' (first | (with_reducible first | exact Fr.refl _ _ | refine Fr.setCell ?_ (Or.inl ?_) _ | refine Fr.alloc ?_ _ | refine Fr.drewN ?_ _) | (simp; done))) (by first | omega | (simp; done) | (simp; omega)) (by first | omega | (simp; done) | (simp; omega))) (rep_str.2 ⟨_, rfl, rep_int.2 ⟨_, rfl, rep_nil.2 rfl⟩⟩)⟩⟩⟩⟩
        ·go_wp2_with fail
         exact ⟨rfl, RP.bad (by simp only [Px.implementation, bind, Px.Rd.bind, offset_res, if_true, if_false, Bool.false_eq_true, hq1.out, hq2.out, hq3.out, hq4.out, hq5.out, hq6.out, hq7.out, hq8.out]) (HF7.out.join (X := [w.heap.size + 1]) (Fr.trans (by repeat' (first | (with_reducible first | exact Fr.refl _ _ | refine Fr.setCell ?_ (Or.inl ?_) _ | refine Fr.alloc ?_ _ | refine Fr.drewN ?_ _) | (simp; done))) hf.wide) (by simp)) hi⟩
       ·go_wp2_with fail
        exact ⟨rfl, RP.bad (by simp only [Px.implementation, bind, Px.Rd.bind, offset_res, if_true, if_false, Bool.false_eq_true, hq1.out, hq2.out, hq3.out, hq4.out, hq5.out, hq6.out, hq7.out]) (HF6.out.join (X := [w.heap.size + 1]) (Fr.trans (by repeat' (first | (with_reducible first | exact Fr.refl _ _ | refine Fr.setCell ?_ (Or.inl ?_) _ | refine Fr.alloc ?_ _ | refine Fr.drewN ?_ _) | (simp; done))) hf.wide) (by simp)) hi⟩
      ·go_wp2_with fail
       exact ⟨rfl, RP.bad (by simp only [Px.implementation, bind, Px.Rd.bind, offset_res, if_true, if_false, Bool.false_eq_true, hq1.out, hq2.out, hq3.out, hq4.out, hq5.out, hq6.out]) (HF5.out.join (X := [w.heap.size + 1]) (Fr.trans (by repeat' (first | (with_reducible first | exact Fr.refl _ _ | refine Fr.setCell ?_ (Or.inl ?_) _ | refine Fr.alloc ?_ _ | refine Fr.drewN ?_ _) | (simp; done))) hf.wide) (by simp)) hi⟩
     ·go_wp2_with fail
      exact ⟨rfl, RP.bad (by simp only [Px.implementation, bind, Px.Rd.bind, offset_res, if_true, if_false, Bool.false_eq_true, hq1.out, hq2.out, hq3.out, hq4.out, hq5.out]) (HF4.out.join (X := [w.heap.size + 1]) (Fr.trans (by repeat' (first | (with_reducible first | exact Fr.refl _ _ | refine Fr.setCell ?_ (Or.inl ?_) _ | refine Fr.alloc ?_ _ | refine Fr.drewN ?_ _) | (simp; done))) hf.wide) (by simp)) hi⟩
    ·go_wp2_with fail
     exact ⟨rfl, RP.bad (by simp only [Px.implementation, bind, Px.Rd.bind, offset_res, if_true, if_false, Bool.false_eq_true, hq1.out, hq2.out, hq3.out, hq4.out]) (HF3.out.join (X := [w.heap.size + 1]) (Fr.trans (by repeat' (first | (with_reducible first | exact Fr.refl _ _ | refine Fr.setCell ?_ (Or.inl ?_) _ | refine Fr.alloc ?_ _ | refine Fr.drewN ?_ _) | (simp; done))) hf.wide) (by simp)) hi⟩
   ·go_wp2_with fail
    exact ⟨rfl, RP.bad (by simp only [Px.implementation, bind, Px.Rd.bind, offset_res, if_true, if_false, Bool.false_eq_true, hq1.out, hq2.out, hq3.out]) (HF2.out.join (X := [w.heap.size + 1]) (Fr.trans (by repeat' (first | (with_reducible first | exact Fr.refl _ _ | refine Fr.setCell ?_ (Or.inl ?_) _ | refine Fr.alloc ?_ _ | refine Fr.drewN ?_ _) | (simp; done))) hf.wide) (by simp)) hi⟩
  ·go_wp2_with fail
   exact ⟨rfl, RP.bad (by simp only [Px.implementation, bind, Px.Rd.bind, offset_res, if_true, if_false, Bool.false_eq_true, hq1.out, hq2.out]) (HF1.out.join (X := [w.heap.size + 1]) (Fr.trans (by repeat' (first | (with_reducible first | exact Fr.refl _ _ | refine Fr.setCell ?_ (Or.inl ?_) _ | refine Fr.alloc ?_ _ | refine Fr.drewN ?_ _) | (simp; done))) hf.wide) (by simp)) hi⟩
 ·go_wp2_with fail
  exact ⟨rfl, RP.bad (by simp only [Px.implementation, bind, Px.Rd.bind, offset_res, if_true, if_false, Bool.false_eq_true, hq1.out]) ((Fr.refl [c.R] w).join (X := [w.heap.size + 1]) (Fr.trans (by repeat' (first | (with_reducible first | exact Fr.refl _ _ | refine Fr.setCell ?_ (Or.inl ?_) _ | refine Fr.alloc ?_ _ | refine Fr.drewN ?_ _) | (simp; done))) hf.wide) (by simp)) hi⟩
end Go.Proofs.YtpdhiminpdmpiaaGreatDoor
