/-
 Walks of the readers of bounds, variants and arguments.
-/
import Derived.Test.YtpdhiminpdmpiaaGreatDoorVO
set_option linter.unusedVariables false
set_option linter.unusedSimpArgs false
set_option linter.unusedSectionVars false
set_option linter.unusedVariables false
set_option linter.unusedSimpArgs false
set_option linter.unusedSectionVars false
namespace Go.Proofs.YtpdhiminpdmpiaaGreatDoor
open Go.RowKit Go.Lib
open Lx (Tk)
open Px (Txt TyE VarD DataD TraitD BoundD ImplD ArgD ExprD StmtD ArmD FuncD ModD)
set_option maxRecDepth 100000 in
set_option maxHeartbeats 1600000 in
theorem bound_any (c : Ctx) (ts : List Tk) (w : World) (h : Inv c ts w) :
  Calls Tryz.prog 292 #[.pointer (some ⟨c.R, 0, none⟩)] w (RP c w (okAgg boundQ) (Px.bound c.size ts)) := by
 have H := Lib.hid h
 have HR0 := H.out.lt.1
 clear h
 go_enter Tryz.func292, Tryz.ntmps292
 go_wp2_with fail
 refine (offset_any c ts _ (by exact H.out.fr (X := []) H.out (by repeat' (first | (with_reducible first | exact Fr.refl _ _ | refine Fr.setCell ?_ (Or.inl ?_) _ | refine Fr.alloc ?_ _ | refine Fr.drewN ?_ _) | (simp; done))) (by simp))).mono ?_
 rintro e w' ⟨rfl, rfl⟩
 go_wp2_with fail
 refine (name_any c ts _ (by exact H.out.fr (X := [w.heap.size + 1]) H.out (by repeat' (first | (with_reducible first | exact Fr.refl _ _ | refine Fr.setCell ?_ (Or.inl ?_) _ | refine Fr.alloc ?_ _ | refine Fr.drewN ?_ _) | (simp; done))) (by simp))).mono ?_
 rintro e w1 hp
 rcases hp.cases with ⟨x1, ts1, v1, hq1, hf, hi, rfl, hv⟩ | ⟨ts1, hq1, hf, hi, rfl⟩
 ·clear hp
  obtain rfl := hv
  have hT : Fr [c.R, w.heap.size + 1] w w1 := Fr.trans (by repeat' (first | (with_reducible first | exact Fr.refl _ _ | refine Fr.setCell ?_ (Or.inl ?_) _ | refine Fr.alloc ?_ _ | refine Fr.drewN ?_ _) | (simp; done))) hf.wide
  have HD1 : Hid (Blk w1 (w.heap.size + 1) 164 #[.string ⟨#[]⟩, .string ⟨#[]⟩, .int .i64 (offOf c.size ts)]) := Lib.hid ((Blk.new_at (by simp)).keep hf (by simp; omega))
  have HB1 : Hid (Blk w1 (w.heap.size) 164 #[.string ⟨#[]⟩, .string ⟨#[]⟩, .int .i64 0]) := Lib.hid (((Blk.new w _ _).alloc _).keep hf (by simp; omega))
  have HI1 := Lib.hid hi
  have HF1 := Lib.hid ((Fr.refl [c.R] w).join hT (by simp))
  have hz1 := hf.size
  try simp at hz1
  have hl1 : ts1.length < ts.length := Strict.name _ _ _ hq1.out
  clear hT hf hi
  have d0 : w1.cell? ⟨w.heap.size + 1, 0, none⟩ = some (.string ⟨#[]⟩) := HD1.out.cell 0
  have f0 : w1.frozen? ⟨w.heap.size + 1, 0, none⟩ = false := HD1.out.frozen 0
  go_wp2_with fail
  clear d0 f0
  refine (expect_any c ts1 [[58]] _ _ 1 (by exact HI1.out.fr (X := [w.heap.size + 1]) H.out (by repeat' (first | (with_reducible first | exact Fr.refl _ _ | refine Fr.setCell ?_ (Or.inl ?_) _ | refine Fr.alloc ?_ _ | refine Fr.drewN ?_ _) | (simp; done))) (by simp)) rfl (by exact Blk.new_at (by simp)) rfl (by decide)).mono ?_
  rintro e w2 hp
  rcases hp.cases with ⟨x2, ts2, v2, hq2, hf, hi, rfl, hv⟩ | ⟨ts2, hq2, hf, hi, rfl⟩
  ·clear hp
   obtain rfl := hv
   have hT : Fr [c.R, w.heap.size + 1] w1 w2 := Fr.trans (by repeat' (first | (with_reducible first | exact Fr.refl _ _ | refine Fr.setCell ?_ (Or.inl ?_) _ | refine Fr.alloc ?_ _ | refine Fr.drewN ?_ _) | (simp; done))) hf.wide
   have HD2 : Hid (Blk w2 (w.heap.size + 1) 164 #[.string ⟨x1.toArray⟩, .string ⟨#[]⟩, .int .i64 (offOf c.size ts)]) := Lib.hid (((HD1.out.set 0 (.string ⟨x1.toArray⟩)).alloc _).keep hf (by simp; omega))
   have HB2 : Hid (Blk w2 (w.heap.size) 164 #[.string ⟨#[]⟩, .string ⟨#[]⟩, .int .i64 0]) := Lib.hid (HB1.out.keep hT (by simp; omega))
   have HI2 := Lib.hid hi
   have HF2 := Lib.hid (HF1.out.join hT (by simp))
   have hz2 := hf.size
   try simp at hz2
   have hl2 : ts2.length ≤ ts1.length := (Shr.expect _).ok hq2.out
   clear hT hf hi
   go_wp2_with fail
   refine (name_any c ts2 _ (by exact HI2.out.fr (X := [w.heap.size + 1]) H.out (by repeat' (first | (with_reducible first | exact Fr.refl _ _ | refine Fr.setCell ?_ (Or.inl ?_) _ | refine Fr.alloc ?_ _ | refine Fr.drewN ?_ _) | (simp; done))) (by simp))).mono ?_
   rintro e w3 hp
   rcases hp.cases with ⟨x3, ts3, v3, hq3, hf, hi, rfl, hv⟩ | ⟨ts3, hq3, hf, hi, rfl⟩
   ·clear hp
    obtain rfl := hv
    have hT : Fr [c.R, w.heap.size + 1] w2 w3 := Fr.trans (by repeat' (first | (with_reducible first | exact Fr.refl _ _ | refine Fr.setCell ?_ (Or.inl ?_) _ | refine Fr.alloc ?_ _ | refine Fr.drewN ?_ _) | (simp; done))) hf.wide
    have HD3 : Hid (Blk w3 (w.heap.size + 1) 164 #[.string ⟨x1.toArray⟩, .string ⟨#[]⟩, .int .i64 (offOf c.size ts)]) := Lib.hid (HD2.out.keep hf (by simp; omega))
    have HB3 : Hid (Blk w3 (w.heap.size) 164 #[.string ⟨#[]⟩, .string ⟨#[]⟩, .int .i64 0]) := Lib.hid (HB2.out.keep hT (by simp; omega))
    have HI3 := Lib.hid hi
    have HF3 := Lib.hid (HF2.out.join hT (by simp))
    have hz3 := hf.size
    try simp at hz3
    have hl3 : ts3.length < ts2.length := Strict.name _ _ _ hq3.out
    clear hT hf hi
    have d0 : w3.cell? ⟨w.heap.size + 1, 0, none⟩ = some (.string ⟨x1.toArray⟩) := HD3.out.cell 0
    have d1 : w3.cell? ⟨w.heap.size + 1, 1, none⟩ = some (.string ⟨#[]⟩) := HD3.out.cell 1
    have d2 : w3.cell? ⟨w.heap.size + 1, 2, none⟩ = some (.int .i64 (offOf c.size ts)) := HD3.out.cell 2
    have f1 : w3.frozen? ⟨w.heap.size + 1, 1, none⟩ = false := HD3.out.frozen 1
    have b0 : w3.cell? ⟨w.heap.size, 0, none⟩ = some (.string ⟨#[]⟩) := HB3.out.cell 0
    have b1 : w3.cell? ⟨w.heap.size, 1, none⟩ = some (.string ⟨#[]⟩) := HB3.out.cell 1
    have b2 : w3.cell? ⟨w.heap.size, 2, none⟩ = some (.int .i64 0) := HB3.out.cell 2
    have g0 : w3.frozen? ⟨w.heap.size, 0, none⟩ = false := HB3.out.frozen 0
    have g1 : w3.frozen? ⟨w.heap.size, 1, none⟩ = false := HB3.out.frozen 1
    have g2 : w3.frozen? ⟨w.heap.size, 2, none⟩ = false := HB3.out.frozen 2
    go_wp2_with fail
    refine bodyPost_ret (v := .agg #[.string ⟨x1.toArray⟩, .string ⟨x3.toArray⟩, .int .i64 (offOf c.size ts)]) (by simp [results, Tryz.results292, go_sem, d0, d1, d2, f1, b0, b1, b2, g0, g1, g2]) rfl ?_
    clear d0 d1 d2 f1 b0 b1 b2 g0 g1 g2
    exact RP.ok (by simp only [Px.bound, bind, Px.Rd.bind, offset_res, if_true, if_false, Bool.false_eq_true, hq1.out, hq2.out, hq3.out] <;> rfl) (HF3.out.join (X := [w.heap.size + 1, w.heap.size]) (by repeat' (first | (with_reducible first | exact Fr.refl _ _ | refine Fr.setCell ?_ (Or.inl ?_) _ | refine Fr.alloc ?_ _ | refine Fr.drewN ?_ _) | (simp; done))) (by simp)) (HI3.out.fr (X := [w.heap.size + 1, w.heap.size]) H.out (by repeat' (first | (with_reducible first | exact Fr.refl _ _ | refine Fr.setCell ?_ (Or.inl ?_) _ | refine Fr.alloc ?_ _ | refine Fr.drewN ?_ _) | (simp; done))) (by simp)) ⟨[.string ⟨x1.toArray⟩, .string ⟨x3.toArray⟩, .int .i64 (offOf c.size ts)], rfl, rep_str.2 ⟨_, rfl, rep_str.2 ⟨_, rfl, rep_int.2 ⟨_, rfl, rep_nil.2 rfl⟩⟩⟩⟩
   ·go_wp2_with fail
    exact ⟨rfl, RP.bad (by simp only [Px.bound, bind, Px.Rd.bind, offset_res, if_true, if_false, Bool.false_eq_true, hq1.out, hq2.out, hq3.out]) (HF2.out.join (X := [w.heap.size + 1]) (Fr.trans (by repeat' (first | (with_reducible first | exact Fr.refl _ _ | refine Fr.setCell ?_ (Or.inl ?_) _ | refine Fr.alloc ?_ _ | refine Fr.drewN ?_ _) | (simp; done))) hf.wide) (by simp)) hi⟩
  ·go_wp2_with fail
   exact ⟨rfl, RP.bad (by simp only [Px.bound, bind, Px.Rd.bind, offset_res, if_true, if_false, Bool.false_eq_true, hq1.out, hq2.out]) (HF1.out.join (X := [w.heap.size + 1]) (Fr.trans (by repeat' (first | (with_reducible first | exact Fr.refl _ _ | refine Fr.setCell ?_ (Or.inl ?_) _ | refine Fr.alloc ?_ _ | refine Fr.drewN ?_ _) | (simp; done))) hf.wide) (by simp)) hi⟩
 ·go_wp2_with fail
  exact ⟨rfl, RP.bad (by simp only [Px.bound, bind, Px.Rd.bind, offset_res, if_true, if_false, Bool.false_eq_true, hq1.out]) ((Fr.refl [c.R] w).join (X := [w.heap.size + 1]) (Fr.trans (by repeat' (first | (with_reducible first | exact Fr.refl _ _ | refine Fr.setCell ?_ (Or.inl ?_) _ | refine Fr.alloc ?_ _ | refine Fr.drewN ?_ _) | (simp; done))) hf.wide) (by simp)) hi⟩
theorem reads_bound (c : Ctx) (m : Nat) : Reads c 292 m (okAgg boundQ) (Px.bound c.size) := fun ts w h _ => bound_any c ts w h
set_option maxRecDepth 100000 in
set_option maxHeartbeats 1600000 in
theorem params_any (c : Ctx) (ts : List Tk) (w : World) (h : Inv c ts w) :
  Calls Tryz.prog 242 #[.pointer (some ⟨c.R, 0, none⟩)] w (RP c w (okRow 9 1 strQ) (Px.params ts)) := by
 have hmf := make_func
 have H := Lib.hid h
 have HR0 := H.out.lt.1
 clear h
 go_enter Tryz.func242, Tryz.ntmps242
 go_wp2_with fail
 refine (opt_str c _ (ts.length + 1) _ enters_name (reads_name c _) Shr.name [60] [62] (by decide) (by decide) ts _ (by exact H.out.fr (X := []) H.out (by repeat' (first | (with_reducible first | exact Fr.refl _ _ | refine Fr.setCell ?_ (Or.inl ?_) _ | refine Fr.alloc ?_ _ | refine Fr.drewN ?_ _) | (simp; done))) (by simp)) (by omega)).mono ?_
 rintro e w1 hp
 rcases hp.cases with ⟨x1, ts1, v1, hq1, hf, hi, rfl, hv⟩ | ⟨ts1, hq1, hf, hi, rfl⟩
 ·clear hp
  obtain ⟨p1, n1, k1, rfl⟩ := row_shp hv
  have hV1 := row_own (b := w.heap.size) hv (by first | omega | (simp; done) | (simp; omega)) (Fr.refl [] _) (by simp)
  have hT : Fr [c.R] w w1 := Fr.trans (by repeat' (first | (with_reducible first | exact Fr.refl _ _ | refine Fr.setCell ?_ (Or.inl ?_) _ | refine Fr.alloc ?_ _ | refine Fr.drewN ?_ _) | (simp; done))) hf.wide
  have HI1 := Lib.hid hi
  have HF1 := Lib.hid ((Fr.refl [c.R] w).join hT (by simp))
  have hz1 := hf.size
  try simp at hz1
  have HV1 := Lib.hid hV1
  have hl1 : ts1.length ≤ ts.length := (Shr.opt Shr.name _ _).ok hq1.out
  clear hT hf hi hV1 hv
  go_wp2_with fail
  go_ret
  exact RP.ok (by simp only [Px.params, bind, Px.Rd.bind, offset_res, if_true, if_false, Bool.false_eq_true, hq1.out] <;> rfl) (HF1.out.join (X := []) (by repeat' (first | (with_reducible first | exact Fr.refl _ _ | refine Fr.setCell ?_ (Or.inl ?_) _ | refine Fr.alloc ?_ _ | refine Fr.drewN ?_ _) | (simp; done))) (by simp)) (HI1.out.fr (X := []) H.out (by repeat' (first | (with_reducible first | exact Fr.refl _ _ | refine Fr.setCell ?_ (Or.inl ?_) _ | refine Fr.alloc ?_ _ | refine Fr.drewN ?_ _) | (simp; done))) (by simp)) (row_own (b := w.heap.size) HV1.out (by first | omega | (simp; done) | (simp; omega)) (X := []) (by repeat' (first | (with_reducible first | exact Fr.refl _ _ | refine Fr.setCell ?_ (Or.inl ?_) _ | refine Fr.alloc ?_ _ | refine Fr.drewN ?_ _) | (simp; done))) (by simp))
 ·go_wp2_with fail
  exact ⟨rfl, RP.bad (by simp only [Px.params, bind, Px.Rd.bind, offset_res, if_true, if_false, Bool.false_eq_true, hq1.out]) ((Fr.refl [c.R] w).join (X := []) (Fr.trans (by repeat' (first | (with_reducible first | exact Fr.refl _ _ | refine Fr.setCell ?_ (Or.inl ?_) _ | refine Fr.alloc ?_ _ | refine Fr.drewN ?_ _) | (simp; done))) hf.wide) (by simp)) hi⟩
set_option maxRecDepth 100000 in
set_option maxHeartbeats 1600000 in
theorem bounds_any (c : Ctx) (ts : List Tk) (w : World) (h : Inv c ts w) :
  Calls Tryz.prog 246 #[.pointer (some ⟨c.R, 0, none⟩)] w (RP c w (okRow 164 3 boundQ) (Px.bounds c.size ts)) := by
 have hmf := make_func
 have H := Lib.hid h
 have HR0 := H.out.lt.1
 clear h
 go_enter Tryz.func246, Tryz.ntmps246
 go_wp2_with fail
 refine (accept_any c ts [[119, 104, 101, 114, 101]] _ _ 1 (by exact H.out.fr (X := []) H.out (by repeat' (first | (with_reducible first | exact Fr.refl _ _ | refine Fr.setCell ?_ (Or.inl ?_) _ | refine Fr.alloc ?_ _ | refine Fr.drewN ?_ _) | (simp; done))) (by simp)) rfl (by exact Blk.new_at (by simp)) rfl (by decide)).mono ?_
 rintro e w1 hp
 rcases hp.accept with ⟨hq1, _, hf, hi, rfl⟩ | ⟨hq1, hf, hi, rfl⟩
 ·clear hp
  have hl1 := accept_pos hq1.out rfl
  have hT : Fr [c.R] w w1 := Fr.trans (by repeat' (first | (with_reducible first | exact Fr.refl _ _ | refine Fr.setCell ?_ (Or.inl ?_) _ | refine Fr.alloc ?_ _ | refine Fr.drewN ?_ _) | (simp; done))) hf.wide
  have HI1 := Lib.hid hi
  have HF1 := Lib.hid ((Fr.refl [c.R] w).join hT (by simp))
  have hz1 := hf.size
  try simp at hz1
  clear hT hf hi
  go_wp2_with fail
  refine (list_bound c _ (ts.tail.length + 1) _ enters_bound (reads_bound c _) (shr_bound _) ts.tail _ (by exact HI1.out.fr (X := []) H.out (by repeat' (first | (with_reducible first | exact Fr.refl _ _ | refine Fr.setCell ?_ (Or.inl ?_) _ | refine Fr.alloc ?_ _ | refine Fr.drewN ?_ _) | (simp; done))) (by simp)) (by omega)).mono ?_
  rintro e w2 hp
  rcases hp.cases with ⟨x2, ts2, v2, hq2, hf, hi, rfl, hv⟩ | ⟨ts2, hq2, hf, hi, rfl⟩
  ·clear hp
   obtain ⟨p2, n2, k2, rfl⟩ := row_shp hv
   have hV2 := row_own (b := w.heap.size) hv (by first | omega | (simp; done) | (simp; omega)) (Fr.refl [] _) (by simp)
   have hT : Fr [c.R] w1 w2 := Fr.trans (by repeat' (first | (with_reducible first | exact Fr.refl _ _ | refine Fr.setCell ?_ (Or.inl ?_) _ | refine Fr.alloc ?_ _ | refine Fr.drewN ?_ _) | (simp; done))) hf.wide
   have HI2 := Lib.hid hi
   have HF2 := Lib.hid (HF1.out.join hT (by simp))
   have hz2 := hf.size
   try simp at hz2
   have HV2 := Lib.hid hV2
   have hl2 : ts2.length ≤ ts.tail.length := (Shr.list (shr_bound _)).ok hq2.out
   clear hT hf hi hV2 hv
   go_wp2_with fail
   go_ret
   exact RP.ok (by simp only [Px.bounds, bind, Px.Rd.bind, offset_res, if_true, if_false, Bool.false_eq_true, hq1.out, hq2.out] <;> rfl) (HF2.out.join (X := []) (by repeat' (first | (with_reducible first | exact Fr.refl _ _ | refine Fr.setCell ?_ (Or.inl ?_) _ | refine Fr.alloc ?_ _ | refine Fr.drewN ?_ _) | (simp; done))) (by simp)) (HI2.out.fr (X := []) H.out (by repeat' (first | (with_reducible first | exact Fr.refl _ _ | refine Fr.setCell ?_ (Or.inl ?_) _ | refine Fr.alloc ?_ _ | refine Fr.drewN ?_ _) | (simp; done))) (by simp)) (row_own (b := w.heap.size) HV2.out (by first | omega | (simp; done) | (simp; omega)) (X := []) (by repeat' (first | (with_reducible first | exact Fr.refl _ _ | refine Fr.setCell ?_ (Or.inl ?_) _ | refine Fr.alloc ?_ _ | refine Fr.drewN ?_ _) | (simp; done))) (by simp))
  ·go_wp2_with fail
   exact ⟨rfl, RP.bad (by simp only [Px.bounds, bind, Px.Rd.bind, offset_res, if_true, if_false, Bool.false_eq_true, hq1.out, hq2.out]) (HF1.out.join (X := []) (Fr.trans (by repeat' (first | (with_reducible first | exact Fr.refl _ _ | refine Fr.setCell ?_ (Or.inl ?_) _ | refine Fr.alloc ?_ _ | refine Fr.drewN ?_ _) | (simp; done))) hf.wide) (by simp)) hi⟩
 ·clear hp
  have hT : Fr [c.R] w w1 := Fr.trans (by repeat' (first | (with_reducible first | exact Fr.refl _ _ | refine Fr.setCell ?_ (Or.inl ?_) _ | refine Fr.alloc ?_ _ | refine Fr.drewN ?_ _) | (simp; done))) hf.wide
  have HI1 := Lib.hid hi
  have HF1 := Lib.hid ((Fr.refl [c.R] w).join hT (by simp))
  have hz1 := hf.size
  try simp at hz1
  clear hT hf hi
  go_wp2_with fail
  go_ret
  exact RP.ok (a := []) (v := .slice none 0 0) (by simp only [Px.bounds, bind, Px.Rd.bind, offset_res, if_true, if_false, Bool.false_eq_true, hq1.out] <;> rfl) HF1.out HI1.out (okRow_nil _ _ _ _ _)
set_option maxRecDepth 100000 in
set_option maxHeartbeats 1600000 in
theorem variant_any (c : Ctx) (ts : List Tk) (w : World) (h : Inv c ts w) (n : Nat) (hty : Reads c 189 n (okAgg typeQ) (Px.typeF c.size n)) (hm : ts.length < n) :
  Calls Tryz.prog 244 #[.pointer (some ⟨c.R, 0, none⟩)] w (RP c w (okAgg varQ) (Px.variant c.size n ts)) := by
 have HTY : Hid (Reads c 189 n (okAgg typeQ) (Px.typeF c.size n)) := Lib.hid hty
 clear hty
 have hmf := make_func
 have H := Lib.hid h
 have HR0 := H.out.lt.1
 clear h
 go_enter Tryz.func244, Tryz.ntmps244
 go_wp2_with fail
 refine (offset_any c ts _ (by exact H.out.fr (X := []) H.out (by repeat' (first | (with_reducible first | exact Fr.refl _ _ | refine Fr.setCell ?_ (Or.inl ?_) _ | refine Fr.alloc ?_ _ | refine Fr.drewN ?_ _) | (simp; done))) (by simp))).mono ?_
 rintro e w' ⟨rfl, rfl⟩
 go_wp2_with fail
 refine (name_any c ts _ (by exact H.out.fr (X := [w.heap.size + 1]) H.out (by repeat' (first | (with_reducible first | exact Fr.refl _ _ | refine Fr.setCell ?_ (Or.inl ?_) _ | refine Fr.alloc ?_ _ | refine Fr.drewN ?_ _) | (simp; done))) (by simp))).mono ?_
 rintro e w1 hp
 rcases hp.cases with ⟨x1, ts1, v1, hq1, hf, hi, rfl, hv⟩ | ⟨ts1, hq1, hf, hi, rfl⟩
 ·clear hp
  obtain rfl := hv
  have hT : Fr [c.R, w.heap.size + 1] w w1 := Fr.trans (by repeat' (first | (with_reducible first | exact Fr.refl _ _ | refine Fr.setCell ?_ (Or.inl ?_) _ | refine Fr.alloc ?_ _ | refine Fr.drewN ?_ _) | (simp; done))) hf.wide
  have HD1 : Hid (Blk w1 (w.heap.size + 1) 67 #[.string ⟨#[]⟩, .slice none 0 0, .int .i64 (offOf c.size ts)]) := Lib.hid ((Blk.new_at (by simp)).keep hf (by simp; omega))
  have HB1 : Hid (Blk w1 (w.heap.size) 67 #[.string ⟨#[]⟩, .slice none 0 0, .int .i64 0]) := Lib.hid (((Blk.new w _ _).alloc _).keep hf (by simp; omega))
  have HI1 := Lib.hid hi
  have HF1 := Lib.hid ((Fr.refl [c.R] w).join hT (by simp))
  have hz1 := hf.size
  try simp at hz1
  have hl1 : ts1.length < ts.length := Strict.name _ _ _ hq1.out
  clear hT hf hi
  have d0 : w1.cell? ⟨w.heap.size + 1, 0, none⟩ = some (.string ⟨#[]⟩) := HD1.out.cell 0
  have f0 : w1.frozen? ⟨w.heap.size + 1, 0, none⟩ = false := HD1.out.frozen 0
  go_wp2_with fail
  clear d0 f0
  refine (opt_ty c _ n _ enters_type HTY.out (shr_typeF _ _) [40] [41] (by decide) (by decide) ts1 _ (by exact HI1.out.fr (X := [w.heap.size + 1]) H.out (by repeat' (first | (with_reducible first | exact Fr.refl _ _ | refine Fr.setCell ?_ (Or.inl ?_) _ | refine Fr.alloc ?_ _ | refine Fr.drewN ?_ _) | (simp; done))) (by simp)) (by omega)).mono ?_
  rintro e w2 hp
  rcases hp.cases with ⟨x2, ts2, v2, hq2, hf, hi, rfl, hv⟩ | ⟨ts2, hq2, hf, hi, rfl⟩
  ·clear hp
   obtain ⟨p2, n2, k2, rfl⟩ := row_shp hv
   have hV2 := row_own (b := w.heap.size + 2) hv (by first | omega | (simp; done) | (simp; omega)) (Fr.refl [] _) (by simp)
   have hT : Fr [c.R, w.heap.size + 1] w1 w2 := Fr.trans (by repeat' (first | (with_reducible first | exact Fr.refl _ _ | refine Fr.setCell ?_ (Or.inl ?_) _ | refine Fr.alloc ?_ _ | refine Fr.drewN ?_ _) | (simp; done))) hf.wide
   have HD2 : Hid (Blk w2 (w.heap.size + 1) 67 #[.string ⟨x1.toArray⟩, .slice none 0 0, .int .i64 (offOf c.size ts)]) := Lib.hid ((HD1.out.set 0 (.string ⟨x1.toArray⟩)).keep hf (by simp; omega))
   have HB2 : Hid (Blk w2 (w.heap.size) 67 #[.string ⟨#[]⟩, .slice none 0 0, .int .i64 0]) := Lib.hid (HB1.out.keep hT (by simp; omega))
   have HI2 := Lib.hid hi
   have HF2 := Lib.hid (HF1.out.join hT (by simp))
   have hz2 := hf.size
   try simp at hz2
   have HV2 := Lib.hid hV2
   have hl2 : ts2.length ≤ ts1.length := (Shr.opt (shr_typeF _ _) _ _).ok hq2.out
   clear hT hf hi hV2 hv
   have d0 : w2.cell? ⟨w.heap.size + 1, 0, none⟩ = some (.string ⟨x1.toArray⟩) := HD2.out.cell 0
   have d1 : w2.cell? ⟨w.heap.size + 1, 1, none⟩ = some (.slice none 0 0) := HD2.out.cell 1
   have d2 : w2.cell? ⟨w.heap.size + 1, 2, none⟩ = some (.int .i64 (offOf c.size ts)) := HD2.out.cell 2
   have f1 : w2.frozen? ⟨w.heap.size + 1, 1, none⟩ = false := HD2.out.frozen 1
   have b0 : w2.cell? ⟨w.heap.size, 0, none⟩ = some (.string ⟨#[]⟩) := HB2.out.cell 0
   have b1 : w2.cell? ⟨w.heap.size, 1, none⟩ = some (.slice none 0 0) := HB2.out.cell 1
   have b2 : w2.cell? ⟨w.heap.size, 2, none⟩ = some (.int .i64 0) := HB2.out.cell 2
   have g0 : w2.frozen? ⟨w.heap.size, 0, none⟩ = false := HB2.out.frozen 0
   have g1 : w2.frozen? ⟨w.heap.size, 1, none⟩ = false := HB2.out.frozen 1
   have g2 : w2.frozen? ⟨w.heap.size, 2, none⟩ = false := HB2.out.frozen 2
   go_wp2_with fail
   refine bodyPost_ret (v := .agg #[.string ⟨x1.toArray⟩, .slice p2 n2 k2, .int .i64 (offOf c.size ts)]) (by simp [results, Tryz.results244, go_sem, d0, d1, d2, f1, b0, b1, b2, g0, g1, g2]) rfl ?_
   clear d0 d1 d2 f1 b0 b1 b2 g0 g1 g2
   exact RP.ok (by simp only [Px.variant, bind, Px.Rd.bind, offset_res, if_true, if_false, Bool.false_eq_true, hq1.out, hq2.out] <;> rfl) (HF2.out.join (X := [w.heap.size + 1, w.heap.size]) (by repeat' (first | (with_reducible first | exact Fr.refl _ _ | refine Fr.setCell ?_ (Or.inl ?_) _ | refine Fr.alloc ?_ _ | refine Fr.drewN ?_ _) | (simp; done))) (by simp)) (HI2.out.fr (X := [w.heap.size + 1, w.heap.size]) H.out (by repeat' (first | (with_reducible first | exact Fr.refl _ _ | refine Fr.setCell ?_ (Or.inl ?_) _ | refine Fr.alloc ?_ _ | refine Fr.drewN ?_ _) | (simp; done))) (by simp)) ⟨[.string ⟨x1.toArray⟩, .slice p2 n2 k2, .int .i64 (offOf c.size ts)], rfl, rep_str.2 ⟨_, rfl, rep_sl.2 ⟨_, _, rfl, (row_own (b := w.heap.size) HV2.out (by first | omega | (simp; done) | (simp; omega)) (X := [w.heap.size + 1, w.heap.size]) (by repeat' (first | (with_reducible first | exact Fr.refl _ _ | refine Fr.setCell ?_ (Or.inl ?_) _ | refine Fr.alloc ?_ _ | refine Fr.drewN ?_ _) | (simp; done))) (by simp)), rep_int.2 ⟨_, rfl, rep_nil.2 rfl⟩⟩⟩⟩
  ·go_wp2_with fail
   exact ⟨rfl, RP.bad (by simp only [Px.variant, bind, Px.Rd.bind, offset_res, if_true, if_false, Bool.false_eq_true, hq1.out, hq2.out]) (HF1.out.join (X := [w.heap.size + 1]) (Fr.trans (by repeat' (first | (with_reducible first | exact Fr.refl _ _ | refine Fr.setCell ?_ (Or.inl ?_) _ | refine Fr.alloc ?_ _ | refine Fr.drewN ?_ _) | (simp; done))) hf.wide) (by simp)) hi⟩
 ·go_wp2_with fail
  exact ⟨rfl, RP.bad (by simp only [Px.variant, bind, Px.Rd.bind, offset_res, if_true, if_false, Bool.false_eq_true, hq1.out]) ((Fr.refl [c.R] w).join (X := [w.heap.size + 1]) (Fr.trans (by repeat' (first | (with_reducible first | exact Fr.refl _ _ | refine Fr.setCell ?_ (Or.inl ?_) _ | refine Fr.alloc ?_ _ | refine Fr.drewN ?_ _) | (simp; done))) hf.wide) (by simp)) hi⟩
set_option maxRecDepth 100000 in
set_option maxHeartbeats 1600000 in
theorem dropAction_any (c : Ctx) (ts : List Tk) (w : World) (h : Inv c ts w) :
  Calls Tryz.prog 245 #[.pointer (some ⟨c.R, 0, none⟩)] w (RP c w (okInt) (Px.dropAction ts)) := by
 have H := Lib.hid h
 have HR0 := H.out.lt.1
 clear h
 go_enter Tryz.func245, Tryz.ntmps245
 go_wp2_with fail
 refine (accept_any c ts [[112, 97, 110, 105, 99]] _ _ 1 (by exact H.out.fr (X := []) H.out (by repeat' (first | (with_reducible first | exact Fr.refl _ _ | refine Fr.setCell ?_ (Or.inl ?_) _ | refine Fr.alloc ?_ _ | refine Fr.drewN ?_ _) | (simp; done))) (by simp)) rfl (by exact Blk.new_at (by simp)) rfl (by decide)).mono ?_
 rintro e w1 hp
 rcases hp.accept with ⟨hq1, _, hf, hi, rfl⟩ | ⟨hq1, hf, hi, rfl⟩
 ·clear hp
  have hl1 := accept_pos hq1.out rfl
  have hT : Fr [c.R] w w1 := Fr.trans (by repeat' (first | (with_reducible first | exact Fr.refl _ _ | refine Fr.setCell ?_ (Or.inl ?_) _ | refine Fr.alloc ?_ _ | refine Fr.drewN ?_ _) | (simp; done))) hf.wide
  have HI1 := Lib.hid hi
  have HF1 := Lib.hid ((Fr.refl [c.R] w).join hT (by simp))
  have hz1 := hf.size
  try simp at hz1
  clear hT hf hi
  go_wp2_with fail
  go_ret
  exact RP.ok (a := -1) (v := .int .i64 (-1)) (by simp only [Px.dropAction, bind, Px.Rd.bind, offset_res, if_true, if_false, Bool.false_eq_true, hq1.out] <;> rfl) HF1.out HI1.out rfl
 ·clear hp
  have hT : Fr [c.R] w w1 := Fr.trans (by repeat' (first | (with_reducible first | exact Fr.refl _ _ | refine Fr.setCell ?_ (Or.inl ?_) _ | refine Fr.alloc ?_ _ | refine Fr.drewN ?_ _) | (simp; done))) hf.wide
  have HI1 := Lib.hid hi
  have HF1 := Lib.hid ((Fr.refl [c.R] w).join hT (by simp))
  have hz1 := hf.size
  try simp at hz1
  clear hT hf hi
  go_wp2_with fail
  refine (number_any c ts _ (by exact HI1.out.fr (X := []) H.out (by repeat' (first | (with_reducible first | exact Fr.refl _ _ | refine Fr.setCell ?_ (Or.inl ?_) _ | refine Fr.alloc ?_ _ | refine Fr.drewN ?_ _) | (simp; done))) (by simp))).mono ?_
  rintro e w2 hp
  rcases hp.cases with ⟨x2, ts2, v2, hq2, hf, hi, rfl, hv⟩ | ⟨ts2, hq2, hf, hi, rfl⟩
  ·clear hp
   obtain rfl := hv
   have hT : Fr [c.R] w1 w2 := Fr.trans (by repeat' (first | (with_reducible first | exact Fr.refl _ _ | refine Fr.setCell ?_ (Or.inl ?_) _ | refine Fr.alloc ?_ _ | refine Fr.drewN ?_ _) | (simp; done))) hf.wide
   have HI2 := Lib.hid hi
   have HF2 := Lib.hid (HF1.out.join hT (by simp))
   have hz2 := hf.size
   try simp at hz2
   have hl2 : ts2.length ≤ ts.length := (Shr.number).ok hq2.out
   clear hT hf hi
   go_wp2_with fail
   go_ret
   exact RP.ok (by simp only [Px.dropAction, bind, Px.Rd.bind, offset_res, if_true, if_false, Bool.false_eq_true, hq1.out, hq2.out] <;> rfl) (HF2.out.join (X := []) (by repeat' (first | (with_reducible first | exact Fr.refl _ _ | refine Fr.setCell ?_ (Or.inl ?_) _ | refine Fr.alloc ?_ _ | refine Fr.drewN ?_ _) | (simp; done))) (by simp)) (HI2.out.fr (X := []) H.out (by repeat' (first | (with_reducible first | exact Fr.refl _ _ | refine Fr.setCell ?_ (Or.inl ?_) _ | refine Fr.alloc ?_ _ | refine Fr.drewN ?_ _) | (simp; done))) (by simp)) rfl
  ·go_wp2_with fail
   exact ⟨rfl, RP.bad (by simp only [Px.dropAction, bind, Px.Rd.bind, offset_res, if_true, if_false, Bool.false_eq_true, hq1.out, hq2.out]) (HF1.out.join (X := []) (Fr.trans (by repeat' (first | (with_reducible first | exact Fr.refl _ _ | refine Fr.setCell ?_ (Or.inl ?_) _ | refine Fr.alloc ?_ _ | refine Fr.drewN ?_ _) | (simp; done))) hf.wide) (by simp)) hi⟩
set_option maxRecDepth 100000 in
set_option maxHeartbeats 1600000 in
theorem arg_any (c : Ctx) (ts : List Tk) (w : World) (h : Inv c ts w) (n : Nat) (hty : Reads c 189 n (okAgg typeQ) (Px.typeF c.size n)) (hm : ts.length < n) :
  Calls Tryz.prog 290 #[.pointer (some ⟨c.R, 0, none⟩)] w (RP c w (okAgg argQ) (Px.arg c.size n ts)) := by
 have HTY : Hid (Reads c 189 n (okAgg typeQ) (Px.typeF c.size n)) := Lib.hid hty
 clear hty
 have hmf := make_func
 have H := Lib.hid h
 have HR0 := H.out.lt.1
 clear h
 go_enter Tryz.func290, Tryz.ntmps290
 go_wp2_with fail
 refine (offset_any c ts _ (by exact H.out.fr (X := []) H.out (by repeat' (first | (with_reducible first | exact Fr.refl _ _ | refine Fr.setCell ?_ (Or.inl ?_) _ | refine Fr.alloc ?_ _ | refine Fr.drewN ?_ _) | (simp; done))) (by simp))).mono ?_
 rintro e w' ⟨rfl, rfl⟩
 go_wp2_with fail
 refine (name_any c ts _ (by exact H.out.fr (X := [w.heap.size + 1]) H.out (by repeat' (first | (with_reducible first | exact Fr.refl _ _ | refine Fr.setCell ?_ (Or.inl ?_) _ | refine Fr.alloc ?_ _ | refine Fr.drewN ?_ _) | (simp; done))) (by simp))).mono ?_
 rintro e w1 hp
 rcases hp.cases with ⟨x1, ts1, v1, hq1, hf, hi, rfl, hv⟩ | ⟨ts1, hq1, hf, hi, rfl⟩
 ·clear hp
  obtain rfl := hv
  have hT : Fr [c.R, w.heap.size + 1] w w1 := Fr.trans (by repeat' (first | (with_reducible first | exact Fr.refl _ _ | refine Fr.setCell ?_ (Or.inl ?_) _ | refine Fr.alloc ?_ _ | refine Fr.drewN ?_ _) | (simp; done))) hf.wide
  have HD1 : Hid (Blk w1 (w.heap.size + 1) 156 #[.string ⟨#[]⟩, .string ⟨#[]⟩, .slice none 0 0, .int .i64 0, .int .i64 0, .int .i64 (offOf c.size ts)]) := Lib.hid ((Blk.new_at (by simp)).keep hf (by simp; omega))
  have HB1 : Hid (Blk w1 (w.heap.size) 156 #[.string ⟨#[]⟩, .string ⟨#[]⟩, .slice none 0 0, .int .i64 0, .int .i64 0, .int .i64 0]) := Lib.hid (((Blk.new w _ _).alloc _).keep hf (by simp; omega))
  have HI1 := Lib.hid hi
  have HF1 := Lib.hid ((Fr.refl [c.R] w).join hT (by simp))
  have hz1 := hf.size
  try simp at hz1
  have hl1 : ts1.length < ts.length := Strict.name _ _ _ hq1.out
  clear hT hf hi
  have d0 : w1.cell? ⟨w.heap.size + 1, 0, none⟩ = some (.string ⟨#[]⟩) := HD1.out.cell 0
  have f0 : w1.frozen? ⟨w.heap.size + 1, 0, none⟩ = false := HD1.out.frozen 0
  go_wp2_with fail
  clear d0 f0
  refine (expect_any c ts1 [[58]] _ _ 1 (by exact HI1.out.fr (X := [w.heap.size + 1]) H.out (by repeat' (first | (with_reducible first | exact Fr.refl _ _ | refine Fr.setCell ?_ (Or.inl ?_) _ | refine Fr.alloc ?_ _ | refine Fr.drewN ?_ _) | (simp; done))) (by simp)) rfl (by exact Blk.new_at (by simp)) rfl (by decide)).mono ?_
  rintro e w2 hp
  rcases hp.cases with ⟨x2, ts2, v2, hq2, hf, hi, rfl, hv⟩ | ⟨ts2, hq2, hf, hi, rfl⟩
  ·clear hp
   obtain rfl := hv
   have hT : Fr [c.R, w.heap.size + 1] w1 w2 := Fr.trans (by repeat' (first | (with_reducible first | exact Fr.refl _ _ | refine Fr.setCell ?_ (Or.inl ?_) _ | refine Fr.alloc ?_ _ | refine Fr.drewN ?_ _) | (simp; done))) hf.wide
   have HD2 : Hid (Blk w2 (w.heap.size + 1) 156 #[.string ⟨x1.toArray⟩, .string ⟨#[]⟩, .slice none 0 0, .int .i64 0, .int .i64 0, .int .i64 (offOf c.size ts)]) := Lib.hid (((HD1.out.set 0 (.string ⟨x1.toArray⟩)).alloc _).keep hf (by simp; omega))
   have HB2 : Hid (Blk w2 (w.heap.size) 156 #[.string ⟨#[]⟩, .string ⟨#[]⟩, .slice none 0 0, .int .i64 0, .int .i64 0, .int .i64 0]) := Lib.hid (HB1.out.keep hT (by simp; omega))
   have HI2 := Lib.hid hi
   have HF2 := Lib.hid (HF1.out.join hT (by simp))
   have hz2 := hf.size
   try simp at hz2
   have hl2 : ts2.length ≤ ts1.length := (Shr.expect _).ok hq2.out
   clear hT hf hi
   go_wp2_with fail
   refine (HTY.out ts2 _ (by exact HI2.out.fr (X := [w.heap.size + 1]) H.out (by repeat' (first | (with_reducible first | exact Fr.refl _ _ | refine Fr.setCell ?_ (Or.inl ?_) _ | refine Fr.alloc ?_ _ | refine Fr.drewN ?_ _) | (simp; done))) (by simp)) (by omega)).mono ?_
   rintro e w3 hp
   rcases hp.cases with ⟨x3, ts3, v3, hq3, hf, hi, rfl, hv⟩ | ⟨ts3, hq3, hf, hi, rfl⟩
   ·clear hp
    obtain ⟨cs, rfl, hrep⟩ := hv
    obtain ⟨y3_0, y3_1, y3_2, rfl⟩ := cells_3 (hrep.len.trans (len_typeQ x3))
    obtain ⟨s3_0, rfl⟩ := hrep.kind 0 rfl (kind_typeQ x3 0 rfl)
    obtain ⟨p3_1, n3_1, c3_1, rfl⟩ := hrep.kind 1 rfl (kind_typeQ x3 1 rfl)
    obtain ⟨i3_2, rfl⟩ := hrep.kind 2 rfl (kind_typeQ x3 2 rfl)
    have hV3 : Rep w3 (fun k => w.heap.size + 2 ≤ k) _ _ := hrep.mono (fun k hk _ => ⟨by (try simp at hk); omega, rfl⟩)
    have hT : Fr [c.R, w.heap.size + 1] w2 w3 := Fr.trans (by repeat' (first | (with_reducible first | exact Fr.refl _ _ | refine Fr.setCell ?_ (Or.inl ?_) _ | refine Fr.alloc ?_ _ | refine Fr.drewN ?_ _) | (simp; done))) hf.wide
    have HD3 : Hid (Blk w3 (w.heap.size + 1) 156 #[.string ⟨x1.toArray⟩, .string ⟨#[]⟩, .slice none 0 0, .int .i64 0, .int .i64 0, .int .i64 (offOf c.size ts)]) := Lib.hid (HD2.out.keep hf (by simp; omega))
    have HB3 : Hid (Blk w3 (w.heap.size) 156 #[.string ⟨#[]⟩, .string ⟨#[]⟩, .slice none 0 0, .int .i64 0, .int .i64 0, .int .i64 0]) := Lib.hid (HB2.out.keep hT (by simp; omega))
    have HI3 := Lib.hid hi
    have HF3 := Lib.hid (HF2.out.join hT (by simp))
    have hz3 := hf.size
    try simp at hz3
    have HV3 := Lib.hid hV3
    have hl3 : ts3.length ≤ ts2.length := (shr_typeF _ _).ok hq3.out
    clear hT hf hi hV3 hrep
    have d0 : w3.cell? ⟨w.heap.size + 1, 0, none⟩ = some (.string ⟨x1.toArray⟩) := HD3.out.cell 0
    have d1 : w3.cell? ⟨w.heap.size + 1, 1, none⟩ = some (.string ⟨#[]⟩) := HD3.out.cell 1
    have d2 : w3.cell? ⟨w.heap.size + 1, 2, none⟩ = some (.slice none 0 0) := HD3.out.cell 2
    have d3 : w3.cell? ⟨w.heap.size + 1, 3, none⟩ = some (.int .i64 0) := HD3.out.cell 3
    have d4 : w3.cell? ⟨w.heap.size + 1, 4, none⟩ = some (.int .i64 0) := HD3.out.cell 4
    have d5 : w3.cell? ⟨w.heap.size + 1, 5, none⟩ = some (.int .i64 (offOf c.size ts)) := HD3.out.cell 5
    have f1 : w3.frozen? ⟨w.heap.size + 1, 1, none⟩ = false := HD3.out.frozen 1
    have f2 : w3.frozen? ⟨w.heap.size + 1, 2, none⟩ = false := HD3.out.frozen 2
    have f3 : w3.frozen? ⟨w.heap.size + 1, 3, none⟩ = false := HD3.out.frozen 3
    have b0 : w3.cell? ⟨w.heap.size, 0, none⟩ = some (.string ⟨#[]⟩) := HB3.out.cell 0
    have b1 : w3.cell? ⟨w.heap.size, 1, none⟩ = some (.string ⟨#[]⟩) := HB3.out.cell 1
    have b2 : w3.cell? ⟨w.heap.size, 2, none⟩ = some (.slice none 0 0) := HB3.out.cell 2
    have b3 : w3.cell? ⟨w.heap.size, 3, none⟩ = some (.int .i64 0) := HB3.out.cell 3
    have b4 : w3.cell? ⟨w.heap.size, 4, none⟩ = some (.int .i64 0) := HB3.out.cell 4
    have b5 : w3.cell? ⟨w.heap.size, 5, none⟩ = some (.int .i64 0) := HB3.out.cell 5
    have g0 : w3.frozen? ⟨w.heap.size, 0, none⟩ = false := HB3.out.frozen 0
    have g1 : w3.frozen? ⟨w.heap.size, 1, none⟩ = false := HB3.out.frozen 1
    have g2 : w3.frozen? ⟨w.heap.size, 2, none⟩ = false := HB3.out.frozen 2
    have g3 : w3.frozen? ⟨w.heap.size, 3, none⟩ = false := HB3.out.frozen 3
    have g4 : w3.frozen? ⟨w.heap.size, 4, none⟩ = false := HB3.out.frozen 4
    have g5 : w3.frozen? ⟨w.heap.size, 5, none⟩ = false := HB3.out.frozen 5
    go_wp2_with fail
    refine bodyPost_ret (v := .agg #[.string ⟨x1.toArray⟩, .string s3_0, .slice p3_1 n3_1 c3_1, .int .i64 i3_2, .int .i64 0, .int .i64 (offOf c.size ts)]) (by simp [results, Tryz.results290, go_sem, d0, d1, d2, d3, d4, d5, f1, f2, f3, b0, b1, b2, b3, b4, b5, g0, g1, g2, g3, g4, g5]) rfl ?_
    clear d0 d1 d2 d3 d4 d5 f1 f2 f3 b0 b1 b2 b3 b4 b5 g0 g1 g2 g3 g4 g5
    exact RP.ok (by simp only [Px.arg, bind, Px.Rd.bind, offset_res, if_true, if_false, Bool.false_eq_true, hq1.out, hq2.out, hq3.out] <;> rfl) (HF3.out.join (X := [w.heap.size + 1, w.heap.size]) (by repeat' (first | (with_reducible first | exact Fr.refl _ _ | refine Fr.setCell ?_ (Or.inl ?_) _ | refine Fr.alloc ?_ _ | refine Fr.drewN ?_ _) | (simp; done))) (by simp)) (HI3.out.fr (X := [w.heap.size + 1, w.heap.size]) H.out (by repeat' (first | (with_reducible first | exact Fr.refl _ _ | refine Fr.setCell ?_ (Or.inl ?_) _ | refine Fr.alloc ?_ _ | refine Fr.drewN ?_ _) | (simp; done))) (by simp)) ⟨[.string ⟨x1.toArray⟩, .string s3_0, .slice p3_1 n3_1 c3_1, .int .i64 i3_2, .int .i64 0, .int .i64 (offOf c.size ts)], rfl, rep_str.2 ⟨_, rfl, Rep.app (cs := [.string s3_0, .slice p3_1 n3_1 c3_1, .int .i64 i3_2]) (rep_own (b := w.heap.size) HV3.out (X := [w.heap.size + 1, w.heap.size]) (by repeat' (first | (with_reducible first | exact Fr.refl _ _ | refine Fr.setCell ?_ (Or.inl ?_) _ | refine Fr.alloc ?_ _ | refine Fr.drewN ?_ _) | (simp; done))) (by first | omega | (simp; done) | (simp; omega)) (by first | omega | (simp; done) | (simp; omega))) (rep_int.2 ⟨_, rfl, rep_int.2 ⟨_, rfl, rep_nil.2 rfl⟩⟩)⟩⟩
   ·go_wp2_with fail
    exact ⟨rfl, RP.bad (by simp only [Px.arg, bind, Px.Rd.bind, offset_res, if_true, if_false, Bool.false_eq_true, hq1.out, hq2.out, hq3.out]) (HF2.out.join (X := [w.heap.size + 1]) (Fr.trans (by repeat' (first | (with_reducible first | exact Fr.refl _ _ | refine Fr.setCell ?_ (Or.inl ?_) _ | refine Fr.alloc ?_ _ | refine Fr.drewN ?_ _) | (simp; done))) hf.wide) (by simp)) hi⟩
  ·go_wp2_with fail
   exact ⟨rfl, RP.bad (by simp only [Px.arg, bind, Px.Rd.bind, offset_res, if_true, if_false, Bool.false_eq_true, hq1.out, hq2.out]) (HF1.out.join (X := [w.heap.size + 1]) (Fr.trans (by repeat' (first | (with_reducible first | exact Fr.refl _ _ | refine Fr.setCell ?_ (Or.inl ?_) _ | refine Fr.alloc ?_ _ | refine Fr.drewN ?_ _) | (simp; done))) hf.wide) (by simp)) hi⟩
 ·go_wp2_with fail
  exact ⟨rfl, RP.bad (by simp only [Px.arg, bind, Px.Rd.bind, offset_res, if_true, if_false, Bool.false_eq_true, hq1.out]) ((Fr.refl [c.R] w).join (X := [w.heap.size + 1]) (Fr.trans (by repeat' (first | (with_reducible first | exact Fr.refl _ _ | refine Fr.setCell ?_ (Or.inl ?_) _ | refine Fr.alloc ?_ _ | refine Fr.drewN ?_ _) | (simp; done))) hf.wide) (by simp)) hi⟩
end Go.Proofs.YtpdhiminpdmpiaaGreatDoor
/-
 Walks of the readers of types and captures.
-/
set_option linter.unusedVariables false
set_option linter.unusedSimpArgs false
set_option linter.unusedSectionVars false
namespace Go.Proofs.YtpdhiminpdmpiaaGreatDoor
open Go.RowKit Go.Lib
open Lx (Tk)
open Px (Txt TyE VarD DataD TraitD BoundD ImplD ArgD ExprD StmtD ArmD FuncD ModD)
theorem capture_rep {w : World} {N : Nat → Prop} {a : ArgD} {k o : Nat} {v0 v1 v2 v3 v4 v5 : Value} (h : Rep w N (argQ a) [v0, v1, v2, v3, v4, v5]) : Rep w N (argQ ⟨a.name, a.type, k, o⟩) [v0, v1, v2, v3, .int .i64 k, .int .i64 o] := by
 unfold argQ at *
 rw [rep_str] at h
 obtain ⟨cs, e, h⟩ := h
 obtain ⟨p, q, e2, h1, h2⟩ := Rep.split h
 have hl := h1.len
 rw [len_typeQ] at hl
 obtain ⟨y1, y2, y3, rfl⟩ := cells_3 hl
 simp only [List.cons.injEq] at e
 obtain ⟨rfl, rfl⟩ := e
 simp only [List.cons_append, List.nil_append, List.cons.injEq] at e2
 obtain ⟨rfl, rfl, rfl, _⟩ := e2
 exact rep_str.2 ⟨_, rfl, Rep.app (cs := [v1, v2, v3]) h1 (rep_int.2 ⟨_, rfl, rep_int.2 ⟨_, rfl, rep_nil.2 rfl⟩⟩)⟩
set_option maxRecDepth 100000 in
set_option maxHeartbeats 1600000 in
theorem captureKind_any (c : Ctx) (ts : List Tk) (w : World) (h : Inv c ts w) :
  Calls Tryz.prog 289 #[.pointer (some ⟨c.R, 0, none⟩)] w (RP c w (okNat) (Px.captureKind ts)) := by
 have H := Lib.hid h
 have HR0 := H.out.lt.1
 clear h
 go_enter Tryz.func289, Tryz.ntmps289
 go_wp2_with fail
 refine (expect_any c ts [[109, 111, 118, 101], [38], [38, 33]] _ _ 3 (by exact H.out.fr (X := []) H.out (by repeat' (first | (with_reducible first | exact Fr.refl _ _ | refine Fr.setCell ?_ (Or.inl ?_) _ | refine Fr.alloc ?_ _ | refine Fr.drewN ?_ _) | (simp; done))) (by simp)) rfl (by exact Blk.new_at (by simp)) rfl (by decide)).mono ?_
 rintro e w1 hp
 rcases hp.cases with ⟨x1, ts1, v1, hq1, hf, hi, rfl, hv⟩ | ⟨ts1, hq1, hf, hi, rfl⟩
 ·clear hp
  obtain rfl := hv
  have hT : Fr [c.R] w w1 := Fr.trans (by repeat' (first | (with_reducible first | exact Fr.refl _ _ | refine Fr.setCell ?_ (Or.inl ?_) _ | refine Fr.alloc ?_ _ | refine Fr.drewN ?_ _) | (simp; done))) hf.wide
  have HI1 := Lib.hid hi
  have HF1 := Lib.hid ((Fr.refl [c.R] w).join hT (by simp))
  have hz1 := hf.size
  try simp at hz1
  have hl1 : ts1.length ≤ ts.length := (Shr.expect _).ok hq1.out
  clear hT hf hi
  by_cases e1 : x1 = [38]
  ·subst e1
   go_wp2_with fail
   go_ret
   exact RP.ok (a := 1) (v := .int .i64 1) (by simp only [Px.captureKind, bind, Px.Rd.bind, offset_res, if_true, if_false, Bool.false_eq_true, hq1.out] <;> rfl) HF1.out HI1.out rfl
  ·have n1 : (x1 == [38]) = false := by simpa using e1
   have N1 := Lib.hid e1
   by_cases e2 : x1 = [38, 33]
   ·subst e2
    clear e1 n1
    go_wp2_with fail
    go_ret
    exact RP.ok (a := 2) (v := .int .i64 2) (by simp only [Px.captureKind, bind, Px.Rd.bind, offset_res, if_true, if_false, Bool.false_eq_true, hq1.out] <;> rfl) HF1.out HI1.out rfl
   ·have n2 : (x1 == [38, 33]) = false := by simpa using e2
    have N2 := Lib.hid e2
    clear e1 e2
    go_wp2_with fail
    go_ret
    exact RP.ok (a := 0) (v := .int .i64 0) (by simp only [Px.captureKind, bind, Px.Rd.bind, offset_res, if_true, if_false, Bool.false_eq_true, hq1.out, if_neg N1.out, if_neg N2.out, pure, Px.Rd.pure]) HF1.out HI1.out rfl
 ·go_wp2_with fail
  exact ⟨rfl, RP.bad (by simp only [Px.captureKind, bind, Px.Rd.bind, offset_res, if_true, if_false, Bool.false_eq_true, hq1.out]) ((Fr.refl [c.R] w).join (X := []) (Fr.trans (by repeat' (first | (with_reducible first | exact Fr.refl _ _ | refine Fr.setCell ?_ (Or.inl ?_) _ | refine Fr.alloc ?_ _ | refine Fr.drewN ?_ _) | (simp; done))) hf.wide) (by simp)) hi⟩
set_option maxRecDepth 100000 in
set_option maxHeartbeats 1600000 in
theorem capture_any (c : Ctx) (ts : List Tk) (w : World) (h : Inv c ts w) (n : Nat) (hty : Reads c 189 n (okAgg typeQ) (Px.typeF c.size n)) (hm : ts.length < n) :
  Calls Tryz.prog 237 #[.pointer (some ⟨c.R, 0, none⟩)] w (RP c w (okAgg argQ) (Px.capture c.size n ts)) := by
 have HTY : Hid (Reads c 189 n (okAgg typeQ) (Px.typeF c.size n)) := Lib.hid hty
 clear hty
 have hmf := make_func
 have H := Lib.hid h
 have HR0 := H.out.lt.1
 clear h
 go_enter Tryz.func237, Tryz.ntmps237
 go_wp2_with fail
 refine (offset_any c ts _ (by exact H.out.fr (X := []) H.out (by repeat' (first | (with_reducible first | exact Fr.refl _ _ | refine Fr.setCell ?_ (Or.inl ?_) _ | refine Fr.alloc ?_ _ | refine Fr.drewN ?_ _) | (simp; done))) (by simp))).mono ?_
 rintro e w' ⟨rfl, rfl⟩
 go_wp2_with fail
 refine (captureKind_any c ts _ (by exact H.out.fr (X := []) H.out (by repeat' (first | (with_reducible first | exact Fr.refl _ _ | refine Fr.setCell ?_ (Or.inl ?_) _ | refine Fr.alloc ?_ _ | refine Fr.drewN ?_ _) | (simp; done))) (by simp))).mono ?_
 rintro e w1 hp
 rcases hp.cases with ⟨x1, ts1, v1, hq1, hf, hi, rfl, hv⟩ | ⟨ts1, hq1, hf, hi, rfl⟩
 ·clear hp
  obtain rfl := hv
  have hT : Fr [c.R] w w1 := Fr.trans (by repeat' (first | (with_reducible first | exact Fr.refl _ _ | refine Fr.setCell ?_ (Or.inl ?_) _ | refine Fr.alloc ?_ _ | refine Fr.drewN ?_ _) | (simp; done))) hf.wide
  have HB1 : Hid (Blk w1 (w.heap.size) 156 #[.string ⟨#[]⟩, .string ⟨#[]⟩, .slice none 0 0, .int .i64 0, .int .i64 0, .int .i64 0]) := Lib.hid ((Blk.new w _ _).keep hf (by simp; omega))
  have HI1 := Lib.hid hi
  have HF1 := Lib.hid ((Fr.refl [c.R] w).join hT (by simp))
  have hz1 := hf.size
  try simp at hz1
  have hl1 : ts1.length ≤ ts.length := (shr_captureKind).ok hq1.out
  clear hT hf hi
  go_wp2_with fail
  refine (arg_any c ts1 _ (by exact HI1.out.fr (X := []) H.out (by repeat' (first | (with_reducible first | exact Fr.refl _ _ | refine Fr.setCell ?_ (Or.inl ?_) _ | refine Fr.alloc ?_ _ | refine Fr.drewN ?_ _) | (simp; done))) (by simp)) n HTY.out (by omega)).mono ?_
  rintro e w2 hp
  rcases hp.cases with ⟨x2, ts2, v2, hq2, hf, hi, rfl, hv⟩ | ⟨ts2, hq2, hf, hi, rfl⟩
  ·clear hp
   obtain ⟨cs, rfl, hrep⟩ := hv
   obtain ⟨y2_0, y2_1, y2_2, y2_3, y2_4, y2_5, rfl⟩ := cells_6 (hrep.len.trans (len_argQ x2))
   obtain ⟨s2_0, rfl⟩ := hrep.kind 0 rfl (kind_argQ x2 0 rfl)
   obtain ⟨s2_1, rfl⟩ := hrep.kind 1 rfl (kind_argQ x2 1 rfl)
   obtain ⟨p2_2, n2_2, c2_2, rfl⟩ := hrep.kind 2 rfl (kind_argQ x2 2 rfl)
   obtain ⟨i2_3, rfl⟩ := hrep.kind 3 rfl (kind_argQ x2 3 rfl)
   obtain ⟨i2_4, rfl⟩ := hrep.kind 4 rfl (kind_argQ x2 4 rfl)
   obtain ⟨i2_5, rfl⟩ := hrep.kind 5 rfl (kind_argQ x2 5 rfl)
   have hV2 : Rep w2 (fun k => w.heap.size + 1 ≤ k) _ _ := hrep.mono (fun k hk _ => ⟨by (try simp at hk); omega, rfl⟩)
   have hT : Fr [c.R] w1 w2 := Fr.trans (by repeat' (first | (with_reducible first | exact Fr.refl _ _ | refine Fr.setCell ?_ (Or.inl ?_) _ | refine Fr.alloc ?_ _ | refine Fr.drewN ?_ _) | (simp; done))) hf.wide
   have HB2 : Hid (Blk w2 (w.heap.size) 156 #[.string ⟨#[]⟩, .string ⟨#[]⟩, .slice none 0 0, .int .i64 0, .int .i64 0, .int .i64 0]) := Lib.hid (HB1.out.keep hT (by simp; omega))
   have HI2 := Lib.hid hi
   have HF2 := Lib.hid (HF1.out.join hT (by simp))
   have hz2 := hf.size
   try simp at hz2
   have HV2 := Lib.hid hV2
   have hl2 : ts2.length ≤ ts1.length := (shr_arg _ _).ok hq2.out
   clear hT hf hi hV2 hrep
   skip
   have hlB : w.heap.size < w2.heap.size := by omega
   have b0 : w2.cell? ⟨w.heap.size, 0, none⟩ = some (.string ⟨#[]⟩) := HB2.out.cell 0
   have b1 : w2.cell? ⟨w.heap.size, 1, none⟩ = some (.string ⟨#[]⟩) := HB2.out.cell 1
   have b2 : w2.cell? ⟨w.heap.size, 2, none⟩ = some (.slice none 0 0) := HB2.out.cell 2
   have b3 : w2.cell? ⟨w.heap.size, 3, none⟩ = some (.int .i64 0) := HB2.out.cell 3
   have b4 : w2.cell? ⟨w.heap.size, 4, none⟩ = some (.int .i64 0) := HB2.out.cell 4
   have b5 : w2.cell? ⟨w.heap.size, 5, none⟩ = some (.int .i64 0) := HB2.out.cell 5
   have g0 : w2.frozen? ⟨w.heap.size, 0, none⟩ = false := HB2.out.frozen 0
   have g1 : w2.frozen? ⟨w.heap.size, 1, none⟩ = false := HB2.out.frozen 1
   have g2 : w2.frozen? ⟨w.heap.size, 2, none⟩ = false := HB2.out.frozen 2
   have g3 : w2.frozen? ⟨w.heap.size, 3, none⟩ = false := HB2.out.frozen 3
   have g4 : w2.frozen? ⟨w.heap.size, 4, none⟩ = false := HB2.out.frozen 4
   have g5 : w2.frozen? ⟨w.heap.size, 5, none⟩ = false := HB2.out.frozen 5
   go_wp2_with fail
   refine bodyPost_ret (v := .agg #[.string s2_0, .string s2_1, .slice p2_2 n2_2 c2_2, .int .i64 i2_3, .int .i64 x1, .int .i64 (offOf c.size ts)]) (by simp [results, Tryz.results237, go_sem, hlB, b0, b1, b2, b3, b4, b5, g0, g1, g2, g3, g4, g5]) rfl ?_
   clear hlB b0 b1 b2 b3 b4 b5 g0 g1 g2 g3 g4 g5
   exact RP.ok (by simp only [Px.capture, bind, Px.Rd.bind, offset_res, if_true, if_false, Bool.false_eq_true, hq1.out, hq2.out] <;> rfl) (HF2.out.join (X := [w.heap.size]) (by repeat' (first | (with_reducible first | exact Fr.refl _ _ | refine Fr.setCell ?_ (Or.inl ?_) _ | refine Fr.alloc ?_ _ | refine Fr.drewN ?_ _) | (simp; done))) (by simp)) (HI2.out.fr (X := [w.heap.size]) H.out (by repeat' (first | (with_reducible first | exact Fr.refl _ _ | refine Fr.setCell ?_ (Or.inl ?_) _ | refine Fr.alloc ?_ _ | refine Fr.drewN ?_ _) | (simp; done))) (by simp)) ⟨[.string s2_0, .string s2_1, .slice p2_2 n2_2 c2_2, .int .i64 i2_3, .int .i64 x1, .int .i64 (offOf c.size ts)], rfl, capture_rep (rep_own (b := w.heap.size) HV2.out (X := [w.heap.size]) (by repeat' (first | (with_reducible first | exact Fr.refl _ _ | refine Fr.setCell ?_ (Or.inl ?_) _ | refine Fr.alloc ?_ _ | refine Fr.drewN ?_ _) | (simp; done))) (by first | omega | (simp; done) | (simp; omega)) (by first | omega | (simp; done) | (simp; omega)))⟩
  ·go_wp2_with fail
   exact ⟨rfl, RP.bad (by simp only [Px.capture, bind, Px.Rd.bind, offset_res, if_true, if_false, Bool.false_eq_true, hq1.out, hq2.out]) (HF1.out.join (X := []) (Fr.trans (by repeat' (first | (with_reducible first | exact Fr.refl _ _ | refine Fr.setCell ?_ (Or.inl ?_) _ | refine Fr.alloc ?_ _ | refine Fr.drewN ?_ _) | (simp; done))) hf.wide) (by simp)) hi⟩
 ·go_wp2_with fail
  exact ⟨rfl, RP.bad (by simp only [Px.capture, bind, Px.Rd.bind, offset_res, if_true, if_false, Bool.false_eq_true, hq1.out]) ((Fr.refl [c.R] w).join (X := []) (Fr.trans (by repeat' (first | (with_reducible first | exact Fr.refl _ _ | refine Fr.setCell ?_ (Or.inl ?_) _ | refine Fr.alloc ?_ _ | refine Fr.drewN ?_ _) | (simp; done))) hf.wide) (by simp)) hi⟩
set_option maxRecDepth 100000 in
set_option maxHeartbeats 1600000 in
theorem type_step (c : Ctx) (ts : List Tk) (w : World) (h : Inv c ts w) (n : Nat) (hty : Reads c 189 n (okAgg typeQ) (Px.typeF c.size n)) (hm : ts.length < n + 1) :
  Calls Tryz.prog 189 #[.pointer (some ⟨c.R, 0, none⟩)] w (RP c w (okAgg typeQ) (Px.typeF c.size (n + 1) ts)) := by
 have HTY : Hid (Reads c 189 n (okAgg typeQ) (Px.typeF c.size n)) := Lib.hid hty
 clear hty
 have hmf := make_func
 have H := Lib.hid h
 have HR0 := H.out.lt.1
 clear h
 go_enter Tryz.func189, Tryz.ntmps189
 go_wp2_with fail
 refine (word_any c ts _ (by exact H.out.fr (X := []) H.out (by repeat' (first | (with_reducible first | exact Fr.refl _ _ | refine Fr.setCell ?_ (Or.inl ?_) _ | refine Fr.alloc ?_ _ | refine Fr.drewN ?_ _) | (simp; done))) (by simp))).mono ?_
 rintro e w' ⟨rfl, rfl⟩
 go_wp2_with fail
 refine (offset_any c ts _ (by exact H.out.fr (X := []) H.out (by repeat' (first | (with_reducible first | exact Fr.refl _ _ | refine Fr.setCell ?_ (Or.inl ?_) _ | refine Fr.alloc ?_ _ | refine Fr.drewN ?_ _) | (simp; done))) (by simp))).mono ?_
 rintro e w' ⟨rfl, rfl⟩
 go_wp2_with fail
 refine (accept_any c ts [[73, 110, 116], [65, 114, 101, 110, 97]] _ _ 2 (by exact H.out.fr (X := [w.heap.size + 1]) H.out (by repeat' (first | (with_reducible first | exact Fr.refl _ _ | refine Fr.setCell ?_ (Or.inl ?_) _ | refine Fr.alloc ?_ _ | refine Fr.drewN ?_ _) | (simp; done))) (by simp)) rfl (by exact Blk.new_at (by simp)) rfl (by decide)).mono ?_
 rintro e w1 hp
 rcases hp.accept with ⟨hq1, _, hf, hi, rfl⟩ | ⟨hq1, hf, hi, rfl⟩
 ·clear hp
  have hl1 := accept_pos hq1.out rfl
  have hT : Fr [c.R, w.heap.size + 1] w w1 := Fr.trans (by repeat' (first | (with_reducible first | exact Fr.refl _ _ | refine Fr.setCell ?_ (Or.inl ?_) _ | refine Fr.alloc ?_ _ | refine Fr.drewN ?_ _) | (simp; done))) hf.wide
  have HD1 : Hid (Blk w1 (w.heap.size + 1) 51 #[.string ⟨(Px.word ts).toArray⟩, .slice none 0 0, .int .i64 (offOf c.size ts)]) := Lib.hid ((Blk.alloc (Blk.new_at (by simp)) _).keep hf (by simp; omega))
  have HB1 : Hid (Blk w1 (w.heap.size) 51 #[.string ⟨#[]⟩, .slice none 0 0, .int .i64 0]) := Lib.hid ((Blk.alloc (Blk.alloc (Blk.new w _ _) _) _).keep hf (by simp; omega))
  have HI1 := Lib.hid hi
  have HF1 := Lib.hid ((Fr.refl [c.R] w).join hT (by simp))
  have hz1 := hf.size
  try simp at hz1
  clear hT hf hi
  have hlB : w.heap.size < w1.heap.size := by omega
  have hlD : w.heap.size + 1 < w1.heap.size := HD1.out.lt
  have d0 : w1.cell? ⟨w.heap.size + 1, 0, none⟩ = some (.string ⟨(Px.word ts).toArray⟩) := HD1.out.cell 0
  have d1 : w1.cell? ⟨w.heap.size + 1, 1, none⟩ = some (.slice none 0 0) := HD1.out.cell 1
  have d2 : w1.cell? ⟨w.heap.size + 1, 2, none⟩ = some (.int .i64 (offOf c.size ts)) := HD1.out.cell 2
  have b0 : w1.cell? ⟨w.heap.size, 0, none⟩ = some (.string ⟨#[]⟩) := HB1.out.cell 0
  have b1 : w1.cell? ⟨w.heap.size, 1, none⟩ = some (.slice none 0 0) := HB1.out.cell 1
  have b2 : w1.cell? ⟨w.heap.size, 2, none⟩ = some (.int .i64 0) := HB1.out.cell 2
  have g0 : w1.frozen? ⟨w.heap.size, 0, none⟩ = false := HB1.out.frozen 0
  have g1 : w1.frozen? ⟨w.heap.size, 1, none⟩ = false := HB1.out.frozen 1
  have g2 : w1.frozen? ⟨w.heap.size, 2, none⟩ = false := HB1.out.frozen 2
  go_wp2_with fail
  refine bodyPost_ret (v := .agg #[.string ⟨(Px.word ts).toArray⟩, .slice none 0 0, .int .i64 (offOf c.size ts)]) (by simp [results, Tryz.results189, go_sem, hlB, hlD, d0, d1, d2, b0, b1, b2, g0, g1, g2]) rfl ?_
  clear hlB hlD d0 d1 d2 b0 b1 b2 g0 g1 g2
  exact RP.ok (by simp only [Px.typeF, bind, Px.Rd.bind, offset_res, if_true, if_false, Bool.false_eq_true, Px.wordR, hq1.out] <;> rfl) (HF1.out.join (X := [w.heap.size + 1, w.heap.size]) (by repeat' (first | (with_reducible first | exact Fr.refl _ _ | refine Fr.setCell ?_ (Or.inl ?_) _ | refine Fr.alloc ?_ _ | refine Fr.drewN ?_ _) | (simp; done))) (by simp)) (HI1.out.fr (X := [w.heap.size + 1, w.heap.size]) H.out (by repeat' (first | (with_reducible first | exact Fr.refl _ _ | refine Fr.setCell ?_ (Or.inl ?_) _ | refine Fr.alloc ?_ _ | refine Fr.drewN ?_ _) | (simp; done))) (by simp)) ⟨[.string ⟨(Px.word ts).toArray⟩, .slice none 0 0, .int .i64 (offOf c.size ts)], rfl, by rw [typeQ_mk]; exact rep_str.2 ⟨_, rfl, rep_sl.2 ⟨_, _, rfl, RowV.nil _ _ _ _, rep_int.2 ⟨_, rfl, rep_nil.2 rfl⟩⟩⟩⟩
 ·clear hp
  have hT : Fr [c.R, w.heap.size + 1] w w1 := Fr.trans (by repeat' (first | (with_reducible first | exact Fr.refl _ _ | refine Fr.setCell ?_ (Or.inl ?_) _ | refine Fr.alloc ?_ _ | refine Fr.drewN ?_ _) | (simp; done))) hf.wide
  have HD1 : Hid (Blk w1 (w.heap.size + 1) 51 #[.string ⟨(Px.word ts).toArray⟩, .slice none 0 0, .int .i64 (offOf c.size ts)]) := Lib.hid ((Blk.alloc (Blk.new_at (by simp)) _).keep hf (by simp; omega))
  have HB1 : Hid (Blk w1 (w.heap.size) 51 #[.string ⟨#[]⟩, .slice none 0 0, .int .i64 0]) := Lib.hid ((Blk.alloc (Blk.alloc (Blk.new w _ _) _) _).keep hf (by simp; omega))
  have HI1 := Lib.hid hi
  have HF1 := Lib.hid ((Fr.refl [c.R] w).join hT (by simp))
  have hz1 := hf.size
  try simp at hz1
  clear hT hf hi
  have hlD : w.heap.size + 1 < w1.heap.size := HD1.out.lt
  go_wp2_with fail
  clear hlD
  refine (accept_any c ts [[66, 111, 120], [67, 104, 97, 110]] _ _ 2 (by exact HI1.out.fr (X := [w.heap.size + 1]) H.out (by repeat' (first | (with_reducible first | exact Fr.refl _ _ | refine Fr.setCell ?_ (Or.inl ?_) _ | refine Fr.alloc ?_ _ | refine Fr.drewN ?_ _) | (simp; done))) (by simp)) rfl (by exact Blk.new_at (by simp)) rfl (by decide)).mono ?_
  rintro e w2 hp
  rcases hp.accept with ⟨hq2, _, hf, hi, rfl⟩ | ⟨hq2, hf, hi, rfl⟩
  ·clear hp
   have hl2 := accept_pos hq2.out rfl
   have hT : Fr [c.R, w.heap.size + 1] w1 w2 := Fr.trans (by repeat' (first | (with_reducible first | exact Fr.refl _ _ | refine Fr.setCell ?_ (Or.inl ?_) _ | refine Fr.alloc ?_ _ | refine Fr.drewN ?_ _) | (simp; done))) hf.wide
   have HD2 : Hid (Blk w2 (w.heap.size + 1) 51 #[.string ⟨(Px.word ts).toArray⟩, .slice none 0 0, .int .i64 (offOf c.size ts)]) := Lib.hid ((Blk.alloc HD1.out _).keep hf (by simp; omega))
   have HB2 : Hid (Blk w2 (w.heap.size) 51 #[.string ⟨#[]⟩, .slice none 0 0, .int .i64 0]) := Lib.hid (HB1.out.keep hT (by simp; omega))
   have HI2 := Lib.hid hi
   have HF2 := Lib.hid (HF1.out.join hT (by simp))
   have hz2 := hf.size
   try simp at hz2
   clear hT hf hi
   have hlD : w.heap.size + 1 < w2.heap.size := HD2.out.lt
   go_wp2_with fail
   clear hlD
   refine (expect_any c ts.tail [[60]] _ _ 1 (by exact HI2.out.fr (X := [w.heap.size + 1]) H.out (by repeat' (first | (with_reducible first | exact Fr.refl _ _ | refine Fr.setCell ?_ (Or.inl ?_) _ | refine Fr.alloc ?_ _ | refine Fr.drewN ?_ _) | (simp; done))) (by simp)) rfl (by exact Blk.new_at (by simp)) rfl (by decide)).mono ?_
   rintro e w3 hp
   rcases hp.cases with ⟨x3, ts3, v3, hq3, hf, hi, rfl, hv⟩ | ⟨ts3, hq3, hf, hi, rfl⟩
   ·clear hp
    obtain rfl := hv
    have hT : Fr [c.R, w.heap.size + 1] w2 w3 := Fr.trans (by repeat' (first | (with_reducible first | exact Fr.refl _ _ | refine Fr.setCell ?_ (Or.inl ?_) _ | refine Fr.alloc ?_ _ | refine Fr.drewN ?_ _) | (simp; done))) hf.wide
    have HD3 : Hid (Blk w3 (w.heap.size + 1) 51 #[.string ⟨(Px.word ts).toArray⟩, .slice none 0 0, .int .i64 (offOf c.size ts)]) := Lib.hid ((Blk.alloc HD2.out _).keep hf (by simp; omega))
    have HB3 : Hid (Blk w3 (w.heap.size) 51 #[.string ⟨#[]⟩, .slice none 0 0, .int .i64 0]) := Lib.hid (HB2.out.keep hT (by simp; omega))
    have HI3 := Lib.hid hi
    have HF3 := Lib.hid (HF2.out.join hT (by simp))
    have hz3 := hf.size
    try simp at hz3
    have hl3 : ts3.length ≤ ts.tail.length := (Shr.expect _).ok hq3.out
    clear hT hf hi
    have hlD : w.heap.size + 1 < w3.heap.size := HD3.out.lt
    go_wp2_with fail
    clear hlD
    refine (HTY.out ts3 _ (by exact HI3.out.fr (X := [w.heap.size + 1]) H.out (by repeat' (first | (with_reducible first | exact Fr.refl _ _ | refine Fr.setCell ?_ (Or.inl ?_) _ | refine Fr.alloc ?_ _ | refine Fr.drewN ?_ _) | (simp; done))) (by simp)) (by omega)).mono ?_
    rintro e w4 hp
    rcases hp.cases with ⟨x4, ts4, v4, hq4, hf, hi, rfl, hv⟩ | ⟨ts4, hq4, hf, hi, rfl⟩
    ·clear hp
     obtain ⟨cs, rfl, hrep⟩ := hv
     obtain ⟨y4_0, y4_1, y4_2, rfl⟩ := cells_3 (hrep.len.trans (len_typeQ x4))
     obtain ⟨s4_0, rfl⟩ := hrep.kind 0 rfl (kind_typeQ x4 0 rfl)
     obtain ⟨p4_1, n4_1, c4_1, rfl⟩ := hrep.kind 1 rfl (kind_typeQ x4 1 rfl)
     obtain ⟨i4_2, rfl⟩ := hrep.kind 2 rfl (kind_typeQ x4 2 rfl)
     have hV4 : Rep w4 (fun k => w.heap.size + 2 ≤ k) _ _ := hrep.mono (fun k hk _ => ⟨by (try simp at hk); omega, rfl⟩)
     have hT : Fr [c.R, w.heap.size + 1] w3 w4 := Fr.trans (by repeat' (first | (with_reducible first | exact Fr.refl _ _ | refine Fr.setCell ?_ (Or.inl ?_) _ | refine Fr.alloc ?_ _ | refine Fr.drewN ?_ _) | (simp; done))) hf.wide
     have HD4 : Hid (Blk w4 (w.heap.size + 1) 51 #[.string ⟨(Px.word ts).toArray⟩, .slice none 0 0, .int .i64 (offOf c.size ts)]) := Lib.hid (HD3.out.keep hf (by simp; omega))
     have HB4 : Hid (Blk w4 (w.heap.size) 51 #[.string ⟨#[]⟩, .slice none 0 0, .int .i64 0]) := Lib.hid (HB3.out.keep hT (by simp; omega))
     have HI4 := Lib.hid hi
     have HF4 := Lib.hid (HF3.out.join hT (by simp))
     have hz4 := hf.size
     try simp at hz4
     have HV4 := Lib.hid hV4
     have hl4 : ts4.length ≤ ts3.length := (shr_typeF _ _).ok hq4.out
     clear hT hf hi hV4 hrep
     have hlD : w.heap.size + 1 < w4.heap.size := HD4.out.lt
     have d1 : w4.cell? ⟨w.heap.size + 1, 1, none⟩ = some (.slice none 0 0) := HD4.out.cell 1
     have f1 : w4.frozen? ⟨w.heap.size + 1, 1, none⟩ = false := HD4.out.frozen 1
     go_wp2_with fail
     clear hlD d1 f1
     refine (expect_any c ts4 [[62]] _ _ 1 (by exact HI4.out.fr (X := [w.heap.size + 1]) H.out (by repeat' (first | (with_reducible first | exact Fr.refl _ _ | refine Fr.setCell ?_ (Or.inl ?_) _ | refine Fr.alloc ?_ _ | refine Fr.drewN ?_ _) | (simp; done))) (by simp)) rfl (by exact Blk.new_at (by simp)) rfl (by decide)).mono ?_
     rintro e w5 hp
     rcases hp.cases with ⟨x5, ts5, v5, hq5, hf, hi, rfl, hv⟩ | ⟨ts5, hq5, hf, hi, rfl⟩
     ·clear hp
      obtain rfl := hv
      have hT : Fr [c.R, w.heap.size + 1] w4 w5 := Fr.trans (by repeat' (first | (with_reducible first | exact Fr.refl _ _ | refine Fr.setCell ?_ (Or.inl ?_) _ | refine Fr.alloc ?_ _ | refine Fr.drewN ?_ _) | (simp; done))) hf.wide
      have HD5 : Hid (Blk w5 (w.heap.size + 1) 51 #[.string ⟨(Px.word ts).toArray⟩, .slice (some ⟨w4.heap.size, 0, none⟩) 1 1, .int .i64 (offOf c.size ts)]) := Lib.hid ((Blk.alloc (Blk.alloc (HD4.out.set 1 (.slice (some ⟨w4.heap.size, 0, none⟩) 1 1)) _) _).keep hf (by simp; omega))
      have HB5 : Hid (Blk w5 (w.heap.size) 51 #[.string ⟨#[]⟩, .slice none 0 0, .int .i64 0]) := Lib.hid (HB4.out.keep hT (by simp; omega))
      have hN : Blk w5 (w4.heap.size) 51 #[.string s4_0, .slice p4_1 n4_1 c4_1, .int .i64 i4_2] := Blk.keep (by repeat' (first | with_reducible refine Blk.new_at ?_ | with_reducible refine Blk.alloc ?_ _ | with_reducible refine Blk.other ?_ ?_ _ | (simp; done) | (simp; omega))) hf (by simp; omega)
      have hNr := row_one (b := w.heap.size + 2) hN (by omega) rfl (rep_own HV4.out hT (by simp; omega))
      have HN4_5 := Lib.hid hNr
      clear hN hNr
      have HV4_5 := Lib.hid (rep_own HV4.out hT (by simp; omega))
      have HI5 := Lib.hid hi
      have HF5 := Lib.hid (HF4.out.join hT (by simp))
      have hz5 := hf.size
      try simp at hz5
      have hl5 : ts5.length ≤ ts4.length := (Shr.expect _).ok hq5.out
      clear hT hf hi
      have hlB : w.heap.size < w5.heap.size := by omega
      have hlD : w.heap.size + 1 < w5.heap.size := HD5.out.lt
      have d0 : w5.cell? ⟨w.heap.size + 1, 0, none⟩ = some (.string ⟨(Px.word ts).toArray⟩) := HD5.out.cell 0
      have d1 : w5.cell? ⟨w.heap.size + 1, 1, none⟩ = some (.slice (some ⟨w4.heap.size, 0, none⟩) 1 1) := HD5.out.cell 1
      have d2 : w5.cell? ⟨w.heap.size + 1, 2, none⟩ = some (.int .i64 (offOf c.size ts)) := HD5.out.cell 2
      have b0 : w5.cell? ⟨w.heap.size, 0, none⟩ = some (.string ⟨#[]⟩) := HB5.out.cell 0
      have b1 : w5.cell? ⟨w.heap.size, 1, none⟩ = some (.slice none 0 0) := HB5.out.cell 1
      have b2 : w5.cell? ⟨w.heap.size, 2, none⟩ = some (.int .i64 0) := HB5.out.cell 2
      have g0 : w5.frozen? ⟨w.heap.size, 0, none⟩ = false := HB5.out.frozen 0
      have g1 : w5.frozen? ⟨w.heap.size, 1, none⟩ = false := HB5.out.frozen 1
      have g2 : w5.frozen? ⟨w.heap.size, 2, none⟩ = false := HB5.out.frozen 2
      go_wp2_with fail
      refine bodyPost_ret (v := .agg #[.string ⟨(Px.word ts).toArray⟩, .slice (some ⟨w4.heap.size, 0, none⟩) 1 1, .int .i64 (offOf c.size ts)]) (by simp [results, Tryz.results189, go_sem, hlB, hlD, d0, d1, d2, b0, b1, b2, g0, g1, g2]) rfl ?_
      clear hlB hlD d0 d1 d2 b0 b1 b2 g0 g1 g2
      exact RP.ok (by simp only [Px.typeF, bind, Px.Rd.bind, offset_res, if_true, if_false, Bool.false_eq_true, Px.wordR, hq1.out, hq2.out, hq3.out, hq4.out, hq5.out] <;> rfl) (HF5.out.join (X := [w.heap.size + 1, w.heap.size]) (by repeat' (first | (with_reducible first | exact Fr.refl _ _ | refine Fr.setCell ?_ (Or.inl ?_) _ | refine Fr.alloc ?_ _ | refine Fr.drewN ?_ _) | (simp; done))) (by simp)) (HI5.out.fr (X := [w.heap.size + 1, w.heap.size]) H.out (by repeat' (first | (with_reducible first | exact Fr.refl _ _ | refine Fr.setCell ?_ (Or.inl ?_) _ | refine Fr.alloc ?_ _ | refine Fr.drewN ?_ _) | (simp; done))) (by simp)) ⟨[.string ⟨(Px.word ts).toArray⟩, .slice (some ⟨w4.heap.size, 0, none⟩) 1 1, .int .i64 (offOf c.size ts)], rfl, by rw [typeQ_mk]; exact rep_str.2 ⟨_, rfl, rep_sl.2 ⟨_, _, rfl, (row_own (b := w.heap.size) HN4_5.out (by first | omega | (simp; done) | (simp; omega)) (X := [w.heap.size + 1, w.heap.size]) (by repeat' (first | (with_reducible first | exact Fr.refl _ _ | refine Fr.setCell ?_ (Or.inl ?_) _ | refine Fr.alloc ?_ _ | refine Fr.drewN ?_ _) | (simp; done))) (by simp)), rep_int.2 ⟨_, rfl, rep_nil.2 rfl⟩⟩⟩⟩
     ·go_wp2_with fail
      exact ⟨rfl, RP.bad (by simp only [Px.typeF, bind, Px.Rd.bind, offset_res, if_true, if_false, Bool.false_eq_true, Px.wordR, hq1.out, hq2.out, hq3.out, hq4.out, hq5.out]) (HF4.out.join (X := [w.heap.size + 1]) (Fr.trans (by repeat' (first | (with_reducible first | exact Fr.refl _ _ | refine Fr.setCell ?_ (Or.inl ?_) _ | refine Fr.alloc ?_ _ | refine Fr.drewN ?_ _) | (simp; done))) hf.wide) (by simp)) hi⟩
    ·go_wp2_with fail
     exact ⟨rfl, RP.bad (by simp only [Px.typeF, bind, Px.Rd.bind, offset_res, if_true, if_false, Bool.false_eq_true, Px.wordR, hq1.out, hq2.out, hq3.out, hq4.out]) (HF3.out.join (X := [w.heap.size + 1]) (Fr.trans (by repeat' (first | (with_reducible first | exact Fr.refl _ _ | refine Fr.setCell ?_ (Or.inl ?_) _ | refine Fr.alloc ?_ _ | refine Fr.drewN ?_ _) | (simp; done))) hf.wide) (by simp)) hi⟩
   ·go_wp2_with fail
    exact ⟨rfl, RP.bad (by simp only [Px.typeF, bind, Px.Rd.bind, offset_res, if_true, if_false, Bool.false_eq_true, Px.wordR, hq1.out, hq2.out, hq3.out]) (HF2.out.join (X := [w.heap.size + 1]) (Fr.trans (by repeat' (first | (with_reducible first | exact Fr.refl _ _ | refine Fr.setCell ?_ (Or.inl ?_) _ | refine Fr.alloc ?_ _ | refine Fr.drewN ?_ _) | (simp; done))) hf.wide) (by simp)) hi⟩
  ·clear hp
   have hT : Fr [c.R, w.heap.size + 1] w1 w2 := Fr.trans (by repeat' (first | (with_reducible first | exact Fr.refl _ _ | refine Fr.setCell ?_ (Or.inl ?_) _ | refine Fr.alloc ?_ _ | refine Fr.drewN ?_ _) | (simp; done))) hf.wide
   have HD2 : Hid (Blk w2 (w.heap.size + 1) 51 #[.string ⟨(Px.word ts).toArray⟩, .slice none 0 0, .int .i64 (offOf c.size ts)]) := Lib.hid ((Blk.alloc HD1.out _).keep hf (by simp; omega))
   have HB2 : Hid (Blk w2 (w.heap.size) 51 #[.string ⟨#[]⟩, .slice none 0 0, .int .i64 0]) := Lib.hid (HB1.out.keep hT (by simp; omega))
   have HI2 := Lib.hid hi
   have HF2 := Lib.hid (HF1.out.join hT (by simp))
   have hz2 := hf.size
   try simp at hz2
   clear hT hf hi
   have hlD : w.heap.size + 1 < w2.heap.size := HD2.out.lt
   go_wp2_with fail
   clear hlD
   refine (accept_any c ts [[38], [38, 33]] _ _ 2 (by exact HI2.out.fr (X := [w.heap.size + 1]) H.out (by repeat' (first | (with_reducible first | exact Fr.refl _ _ | refine Fr.setCell ?_ (Or.inl ?_) _ | refine Fr.alloc ?_ _ | refine Fr.drewN ?_ _) | (simp; done))) (by simp)) rfl (by exact Blk.new_at (by simp)) rfl (by decide)).mono ?_
   rintro e w6 hp
   rcases hp.accept with ⟨hq6, _, hf, hi, rfl⟩ | ⟨hq6, hf, hi, rfl⟩
   ·clear hp
    have hl6 := accept_pos hq6.out rfl
    have hT : Fr [c.R, w.heap.size + 1] w2 w6 := Fr.trans (by repeat' (first | (with_reducible first | exact Fr.refl _ _ | refine Fr.setCell ?_ (Or.inl ?_) _ | refine Fr.alloc ?_ _ | refine Fr.drewN ?_ _) | (simp; done))) hf.wide
    have HD6 : Hid (Blk w6 (w.heap.size + 1) 51 #[.string ⟨(Px.word ts).toArray⟩, .slice none 0 0, .int .i64 (offOf c.size ts)]) := Lib.hid ((Blk.alloc HD2.out _).keep hf (by simp; omega))
    have HB6 : Hid (Blk w6 (w.heap.size) 51 #[.string ⟨#[]⟩, .slice none 0 0, .int .i64 0]) := Lib.hid (HB2.out.keep hT (by simp; omega))
    have HI6 := Lib.hid hi
    have HF6 := Lib.hid (HF2.out.join hT (by simp))
    have hz6 := hf.size
    try simp at hz6
    clear hT hf hi
    have hlD : w.heap.size + 1 < w6.heap.size := HD6.out.lt
    go_wp2_with fail
    clear hlD
    refine (HTY.out ts.tail _ (by exact HI6.out.fr (X := [w.heap.size + 1]) H.out (by repeat' (first | (with_reducible first | exact Fr.refl _ _ | refine Fr.setCell ?_ (Or.inl ?_) _ | refine Fr.alloc ?_ _ | refine Fr.drewN ?_ _) | (simp; done))) (by simp)) (by omega)).mono ?_
    rintro e w7 hp
    rcases hp.cases with ⟨x7, ts7, v7, hq7, hf, hi, rfl, hv⟩ | ⟨ts7, hq7, hf, hi, rfl⟩
    ·clear hp
     obtain ⟨cs, rfl, hrep⟩ := hv
     obtain ⟨y7_0, y7_1, y7_2, rfl⟩ := cells_3 (hrep.len.trans (len_typeQ x7))
     obtain ⟨s7_0, rfl⟩ := hrep.kind 0 rfl (kind_typeQ x7 0 rfl)
     obtain ⟨p7_1, n7_1, c7_1, rfl⟩ := hrep.kind 1 rfl (kind_typeQ x7 1 rfl)
     obtain ⟨i7_2, rfl⟩ := hrep.kind 2 rfl (kind_typeQ x7 2 rfl)
     have hV7 : Rep w7 (fun k => w.heap.size + 2 ≤ k) _ _ := hrep.mono (fun k hk _ => ⟨by (try simp at hk); omega, rfl⟩)
     have hT : Fr [c.R, w.heap.size + 1] w6 w7 := Fr.trans (by repeat' (first | (with_reducible first | exact Fr.refl _ _ | refine Fr.setCell ?_ (Or.inl ?_) _ | refine Fr.alloc ?_ _ | refine Fr.drewN ?_ _) | (simp; done))) hf.wide
     have HD7 : Hid (Blk w7 (w.heap.size + 1) 51 #[.string ⟨(Px.word ts).toArray⟩, .slice none 0 0, .int .i64 (offOf c.size ts)]) := Lib.hid (HD6.out.keep hf (by simp; omega))
     have HB7 : Hid (Blk w7 (w.heap.size) 51 #[.string ⟨#[]⟩, .slice none 0 0, .int .i64 0]) := Lib.hid (HB6.out.keep hT (by simp; omega))
     have HI7 := Lib.hid hi
     have HF7 := Lib.hid (HF6.out.join hT (by simp))
     have hz7 := hf.size
     try simp at hz7
     have HV7 := Lib.hid hV7
     have hl7 : ts7.length ≤ ts.tail.length := (shr_typeF _ _).ok hq7.out
     clear hT hf hi hV7 hrep
     have hlB : w.heap.size < w7.heap.size := by omega
     have hlD : w.heap.size + 1 < w7.heap.size := HD7.out.lt
     have d0 : w7.cell? ⟨w.heap.size + 1, 0, none⟩ = some (.string ⟨(Px.word ts).toArray⟩) := HD7.out.cell 0
     have d1 : w7.cell? ⟨w.heap.size + 1, 1, none⟩ = some (.slice none 0 0) := HD7.out.cell 1
     have d2 : w7.cell? ⟨w.heap.size + 1, 2, none⟩ = some (.int .i64 (offOf c.size ts)) := HD7.out.cell 2
     have f1 : w7.frozen? ⟨w.heap.size + 1, 1, none⟩ = false := HD7.out.frozen 1
     have b0 : w7.cell? ⟨w.heap.size, 0, none⟩ = some (.string ⟨#[]⟩) := HB7.out.cell 0
     have b1 : w7.cell? ⟨w.heap.size, 1, none⟩ = some (.slice none 0 0) := HB7.out.cell 1
     have b2 : w7.cell? ⟨w.heap.size, 2, none⟩ = some (.int .i64 0) := HB7.out.cell 2
     have g0 : w7.frozen? ⟨w.heap.size, 0, none⟩ = false := HB7.out.frozen 0
     have g1 : w7.frozen? ⟨w.heap.size, 1, none⟩ = false := HB7.out.frozen 1
     have g2 : w7.frozen? ⟨w.heap.size, 2, none⟩ = false := HB7.out.frozen 2
     go_wp2_with fail
     refine bodyPost_ret (v := .agg #[.string ⟨(Px.word ts).toArray⟩, .slice (some ⟨w7.heap.size, 0, none⟩) 1 1, .int .i64 (offOf c.size ts)]) (by simp [results, Tryz.results189, go_sem, hlB, hlD, d0, d1, d2, f1, b0, b1, b2, g0, g1, g2]) rfl ?_
     clear hlB hlD d0 d1 d2 f1 b0 b1 b2 g0 g1 g2
     exact RP.ok (by simp only [Px.typeF, bind, Px.Rd.bind, offset_res, if_true, if_false, Bool.false_eq_true, Px.wordR, hq1.out, hq2.out, hq6.out, hq7.out] <;> rfl) (HF7.out.join (X := [w.heap.size + 1, w.heap.size]) (by repeat' (first | (with_reducible first | exact Fr.refl _ _ | refine Fr.setCell ?_ (Or.inl ?_) _ | refine Fr.alloc ?_ _ | refine Fr.drewN ?_ _) | (simp; done))) (by simp)) (HI7.out.fr (X := [w.heap.size + 1, w.heap.size]) H.out (by repeat' (first | (with_reducible first | exact Fr.refl _ _ | refine Fr.setCell ?_ (Or.inl ?_) _ | refine Fr.alloc ?_ _ | refine Fr.drewN ?_ _) | (simp; done))) (by simp)) ⟨[.string ⟨(Px.word ts).toArray⟩, .slice (some ⟨w7.heap.size, 0, none⟩) 1 1, .int .i64 (offOf c.size ts)], rfl, by rw [typeQ_mk]; exact rep_str.2 ⟨_, rfl, rep_sl.2 ⟨_, _, rfl, (row_one (b := w.heap.size) (w := _) (g := w7.heap.size) (xs := [.string s7_0, .slice p7_1 n7_1 c7_1, .int .i64 i7_2]) (by repeat' (first | with_reducible refine Blk.new_at ?_ | with_reducible refine Blk.alloc ?_ _ | with_reducible refine Blk.other ?_ ?_ _ | (simp; done) | (simp; omega))) (by omega) rfl (rep_own HV7.out (X := [w.heap.size + 1, w.heap.size]) (by repeat' (first | (with_reducible first | exact Fr.refl _ _ | refine Fr.setCell ?_ (Or.inl ?_) _ | refine Fr.alloc ?_ _ | refine Fr.drewN ?_ _) | (simp; done))) (by first | omega | (simp; done) | (simp; omega)) (by first | omega | (simp; done) | (simp; omega)))), rep_int.2 ⟨_, rfl, rep_nil.2 rfl⟩⟩⟩⟩
    ·go_wp2_with fail
     exact ⟨rfl, RP.bad (by simp only [Px.typeF, bind, Px.Rd.bind, offset_res, if_true, if_false, Bool.false_eq_true, Px.wordR, hq1.out, hq2.out, hq6.out, hq7.out]) (HF6.out.join (X := [w.heap.size + 1]) (Fr.trans (by repeat' (first | (with_reducible first | exact Fr.refl _ _ | refine Fr.setCell ?_ (Or.inl ?_) _ | refine Fr.alloc ?_ _ | refine Fr.drewN ?_ _) | (simp; done))) hf.wide) (by simp)) hi⟩
   ·clear hp
    have hT : Fr [c.R, w.heap.size + 1] w2 w6 := Fr.trans (by repeat' (first | (with_reducible first | exact Fr.refl _ _ | refine Fr.setCell ?_ (Or.inl ?_) _ | refine Fr.alloc ?_ _ | refine Fr.drewN ?_ _) | (simp; done))) hf.wide
    have HD6 : Hid (Blk w6 (w.heap.size + 1) 51 #[.string ⟨(Px.word ts).toArray⟩, .slice none 0 0, .int .i64 (offOf c.size ts)]) := Lib.hid ((Blk.alloc HD2.out _).keep hf (by simp; omega))
    have HB6 : Hid (Blk w6 (w.heap.size) 51 #[.string ⟨#[]⟩, .slice none 0 0, .int .i64 0]) := Lib.hid (HB2.out.keep hT (by simp; omega))
    have HI6 := Lib.hid hi
    have HF6 := Lib.hid (HF2.out.join hT (by simp))
    have hz6 := hf.size
    try simp at hz6
    clear hT hf hi
    have hlD : w.heap.size + 1 < w6.heap.size := HD6.out.lt
    go_wp2_with fail
    clear hlD
    refine (name_any c ts _ (by exact HI6.out.fr (X := [w.heap.size + 1]) H.out (by repeat' (first | (with_reducible first | exact Fr.refl _ _ | refine Fr.setCell ?_ (Or.inl ?_) _ | refine Fr.alloc ?_ _ | refine Fr.drewN ?_ _) | (simp; done))) (by simp))).mono ?_
    rintro e w8 hp
    rcases hp.cases with ⟨x8, ts8, v8, hq8, hf, hi, rfl, hv⟩ | ⟨ts8, hq8, hf, hi, rfl⟩
    ·clear hp
     obtain rfl := hv
     have hT : Fr [c.R, w.heap.size + 1] w6 w8 := Fr.trans (by repeat' (first | (with_reducible first | exact Fr.refl _ _ | refine Fr.setCell ?_ (Or.inl ?_) _ | refine Fr.alloc ?_ _ | refine Fr.drewN ?_ _) | (simp; done))) hf.wide
     have HD8 : Hid (Blk w8 (w.heap.size + 1) 51 #[.string ⟨(Px.word ts).toArray⟩, .slice none 0 0, .int .i64 (offOf c.size ts)]) := Lib.hid (HD6.out.keep hf (by simp; omega))
     have HB8 : Hid (Blk w8 (w.heap.size) 51 #[.string ⟨#[]⟩, .slice none 0 0, .int .i64 0]) := Lib.hid (HB6.out.keep hT (by simp; omega))
     have HI8 := Lib.hid hi
     have HF8 := Lib.hid (HF6.out.join hT (by simp))
     have hz8 := hf.size
     try simp at hz8
     have hl8 : ts8.length < ts.length := Strict.name _ _ _ hq8.out
     clear hT hf hi
     have hlD : w.heap.size + 1 < w8.heap.size := HD8.out.lt
     have d0 : w8.cell? ⟨w.heap.size + 1, 0, none⟩ = some (.string ⟨(Px.word ts).toArray⟩) := HD8.out.cell 0
     have f0 : w8.frozen? ⟨w.heap.size + 1, 0, none⟩ = false := HD8.out.frozen 0
     go_wp2_with fail
     clear hlD d0 f0
     refine (opt_ty c _ n _ enters_type HTY.out (shr_typeF _ _) [60] [62] (by decide) (by decide) ts8 _ (by exact HI8.out.fr (X := [w.heap.size + 1]) H.out (by repeat' (first | (with_reducible first | exact Fr.refl _ _ | refine Fr.setCell ?_ (Or.inl ?_) _ | refine Fr.alloc ?_ _ | refine Fr.drewN ?_ _) | (simp; done))) (by simp)) (by omega)).mono ?_
     rintro e w9 hp
     rcases hp.cases with ⟨x9, ts9, v9, hq9, hf, hi, rfl, hv⟩ | ⟨ts9, hq9, hf, hi, rfl⟩
     ·clear hp
      obtain ⟨p9, n9, k9, rfl⟩ := row_shp hv
      have hV9 := row_own (b := w.heap.size + 2) hv (by first | omega | (simp; done) | (simp; omega)) (Fr.refl [] _) (by simp)
      have hT : Fr [c.R, w.heap.size + 1] w8 w9 := Fr.trans (by repeat' (first | (with_reducible first | exact Fr.refl _ _ | refine Fr.setCell ?_ (Or.inl ?_) _ | refine Fr.alloc ?_ _ | refine Fr.drewN ?_ _) | (simp; done))) hf.wide
      have HD9 : Hid (Blk w9 (w.heap.size + 1) 51 #[.string ⟨x8.toArray⟩, .slice none 0 0, .int .i64 (offOf c.size ts)]) := Lib.hid ((HD8.out.set 0 (.string ⟨x8.toArray⟩)).keep hf (by simp; omega))
      have HB9 : Hid (Blk w9 (w.heap.size) 51 #[.string ⟨#[]⟩, .slice none 0 0, .int .i64 0]) := Lib.hid (HB8.out.keep hT (by simp; omega))
      have HI9 := Lib.hid hi
      have HF9 := Lib.hid (HF8.out.join hT (by simp))
      have hz9 := hf.size
      try simp at hz9
      have HV9 := Lib.hid hV9
      have hl9 : ts9.length ≤ ts8.length := (Shr.opt (shr_typeF _ _) _ _).ok hq9.out
      clear hT hf hi hV9 hv
      have hlB : w.heap.size < w9.heap.size := by omega
      have hlD : w.heap.size + 1 < w9.heap.size := HD9.out.lt
      have d0 : w9.cell? ⟨w.heap.size + 1, 0, none⟩ = some (.string ⟨x8.toArray⟩) := HD9.out.cell 0
      have d1 : w9.cell? ⟨w.heap.size + 1, 1, none⟩ = some (.slice none 0 0) := HD9.out.cell 1
      have d2 : w9.cell? ⟨w.heap.size + 1, 2, none⟩ = some (.int .i64 (offOf c.size ts)) := HD9.out.cell 2
      have f1 : w9.frozen? ⟨w.heap.size + 1, 1, none⟩ = false := HD9.out.frozen 1
      have b0 : w9.cell? ⟨w.heap.size, 0, none⟩ = some (.string ⟨#[]⟩) := HB9.out.cell 0
      have b1 : w9.cell? ⟨w.heap.size, 1, none⟩ = some (.slice none 0 0) := HB9.out.cell 1
      have b2 : w9.cell? ⟨w.heap.size, 2, none⟩ = some (.int .i64 0) := HB9.out.cell 2
      have g0 : w9.frozen? ⟨w.heap.size, 0, none⟩ = false := HB9.out.frozen 0
      have g1 : w9.frozen? ⟨w.heap.size, 1, none⟩ = false := HB9.out.frozen 1
      have g2 : w9.frozen? ⟨w.heap.size, 2, none⟩ = false := HB9.out.frozen 2
      go_wp2_with fail
      refine bodyPost_ret (v := .agg #[.string ⟨x8.toArray⟩, .slice p9 n9 k9, .int .i64 (offOf c.size ts)]) (by simp [results, Tryz.results189, go_sem, hlB, hlD, d0, d1, d2, f1, b0, b1, b2, g0, g1, g2]) rfl ?_
      clear hlB hlD d0 d1 d2 f1 b0 b1 b2 g0 g1 g2
      exact RP.ok (by simp only [Px.typeF, bind, Px.Rd.bind, offset_res, if_true, if_false, Bool.false_eq_true, Px.wordR, hq1.out, hq2.out, hq6.out, hq8.out, hq9.out] <;> rfl) (HF9.out.join (X := [w.heap.size + 1, w.heap.size]) (by repeat' (first | (with_reducible first | exact Fr.refl _ _ | refine Fr.setCell ?_ (Or.inl ?_) _ | refine Fr.alloc ?_ _ | refine Fr.drewN ?_ _) | (simp; done))) (by simp)) (HI9.out.fr (X := [w.heap.size + 1, w.heap.size]) H.out (by repeat' (first | (with_reducible first | exact Fr.refl _ _ | refine Fr.setCell ?_ (Or.inl ?_) _ | refine Fr.alloc ?_ _ | refine Fr.drewN ?_ _) | (simp; done))) (by simp)) ⟨[.string ⟨x8.toArray⟩, .slice p9 n9 k9, .int .i64 (offOf c.size ts)], rfl, by rw [typeQ_mk]; exact rep_str.2 ⟨_, rfl, rep_sl.2 ⟨_, _, rfl, (row_own (b := w.heap.size) HV9.out (by first | omega | (simp; done) | (simp; omega)) (X := [w.heap.size + 1, w.heap.size]) (by repeat' (first | (with_reducible first | exact Fr.refl _ _ | refine Fr.setCell ?_ (Or.inl ?_) _ | refine Fr.alloc ?_ _ | refine Fr.drewN ?_ _) | (simp; done))) (by simp)), rep_int.2 ⟨_, rfl, rep_nil.2 rfl⟩⟩⟩⟩
     ·go_wp2_with fail
      exact ⟨rfl, RP.bad (by simp only [Px.typeF, bind, Px.Rd.bind, offset_res, if_true, if_false, Bool.false_eq_true, Px.wordR, hq1.out, hq2.out, hq6.out, hq8.out, hq9.out]) (HF8.out.join (X := [w.heap.size + 1]) (Fr.trans (by repeat' (first | (with_reducible first | exact Fr.refl _ _ | refine Fr.setCell ?_ (Or.inl ?_) _ | refine Fr.alloc ?_ _ | refine Fr.drewN ?_ _) | (simp; done))) hf.wide) (by simp)) hi⟩
    ·go_wp2_with fail
     exact ⟨rfl, RP.bad (by simp only [Px.typeF, bind, Px.Rd.bind, offset_res, if_true, if_false, Bool.false_eq_true, Px.wordR, hq1.out, hq2.out, hq6.out, hq8.out]) (HF6.out.join (X := [w.heap.size + 1]) (Fr.trans (by repeat' (first | (with_reducible first | exact Fr.refl _ _ | refine Fr.setCell ?_ (Or.inl ?_) _ | refine Fr.alloc ?_ _ | refine Fr.drewN ?_ _) | (simp; done))) hf.wide) (by simp)) hi⟩
theorem type_any (c : Ctx) : ∀ n, Reads c 189 n (okAgg typeQ) (Px.typeF c.size n)
 | 0 => fun ts w h hm => absurd hm (by omega)
 | n + 1 => fun ts w h hm => type_step c ts w h n (type_any c n) hm
end Go.Proofs.YtpdhiminpdmpiaaGreatDoor
