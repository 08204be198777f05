/-
 Walks of the readers of blocks and functions.
-/
import Derived.Test.YtpdhiminpdmpiaaGreatDoorVGF6
set_option linter.unusedVariables false
set_option linter.unusedSimpArgs false
set_option linter.unusedSectionVars false
set_option linter.unusedVariables false
set_option linter.unusedSimpArgs false
set_option linter.unusedSectionVars false
namespace Go.Proofs.YtpdhiminpdmpiaaGreatDoor
open Go.RowKit Go.Lib
open Lx (Tk)
open Px (Txt TyE VarD DataD TraitD BoundD ImplD ArgD ExprD StmtD ArmD FuncD ModD)
theorem expr0_rep {w : World} {N : Nat → Prop} : Rep w N (exprQ Px.expr0) [.int .i64 0, .string ⟨#[]⟩, .string ⟨#[]⟩, .string ⟨#[]⟩, .slice none 0 0, .int .i64 0, .slice none 0 0, .int .i64 0] :=
 rep_int.2 ⟨_, rfl, rep_str.2 ⟨_, rfl, rep_str.2 ⟨_, rfl, rep_str.2 ⟨_, rfl, rep_sl.2 ⟨_, _, rfl, RowV.nil _ _ _ _, rep_int.2 ⟨_, rfl, rep_sl.2 ⟨_, _, rfl, RowV.nil _ _ _ _, rep_int.2 ⟨_, rfl, rep_nil.2 rfl⟩⟩⟩⟩⟩⟩⟩⟩
def functionS (sz n : Nat) (S : Px.Rd StmtD) (off : Nat) : Px.Rd FuncD := do
 let x ← Px.name
 let p ← Px.params
 let s ← Px.signature sz n
 let b ← Px.bounds sz
 let l ← Px.block S
 pure (.mk x p b [] s.1 s.2 l off)
set_option maxRecDepth 100000 in
set_option maxHeartbeats 1600000 in
theorem block_any (c : Ctx) (ts : List Tk) (w : World) (h : Inv c ts w) (n m : Nat) (S : Px.Rd StmtD) (hty : Reads c 189 n (okAgg typeQ) (Px.typeF c.size n)) (hst : Reads c 233 m (okAgg stmtQ) S) (hsh : Shr S) (hstr : Strict S) (hm : ts.length < n) (hm2 : ts.length < m) :
  Calls Tryz.prog 191 #[.pointer (some ⟨c.R, 0, none⟩)] w (RP c w (okRow 72 17 stmtQ) (Px.block S ts)) := by
 have HTY : Hid (Reads c 189 n (okAgg typeQ) (Px.typeF c.size n)) := Lib.hid hty
 have HST : Hid (Reads c 233 m (okAgg stmtQ) S) := Lib.hid hst
 have HSH := Lib.hid hsh
 have HSTR : Hid (Strict S) := Lib.hid hstr
 clear hty hst hsh hstr
 have hmf := make_func
 have H := Lib.hid h
 have HR0 := H.out.lt.1
 clear h
 go_enter Tryz.func191, Tryz.ntmps191
 go_wp2_with fail
 refine (expect_any c ts [[123]] _ _ 1 (by exact H.out.fr (X := []) H.out (by repeat' (first | (with_reducible first | exact Fr.refl _ _ | refine Fr.setCell ?_ (Or.inl ?_) _ | refine Fr.alloc ?_ _ | refine Fr.drewN ?_ _) | (simp; done))) (by simp)) rfl (by exact Blk.new_at (by simp)) rfl (by decide)).mono ?_
 rintro e w1 hp
 rcases hp.cases with ⟨x1, ts1, v1, hq1, hf, hi, rfl, hv⟩ | ⟨ts1, hq1, hf, hi, rfl⟩
 ·clear hp
  obtain rfl := hv
  have hT : Fr [c.R] w w1 := Fr.trans (by repeat' (first | (with_reducible first | exact Fr.refl _ _ | refine Fr.setCell ?_ (Or.inl ?_) _ | refine Fr.alloc ?_ _ | refine Fr.drewN ?_ _) | (simp; done))) hf.wide
  have HI1 := Lib.hid hi
  have HF1 := Lib.hid ((Fr.refl [c.R] w).join hT (by simp))
  have hz1 := hf.size
  try simp at hz1
  have hl1 : ts1.length ≤ ts.length := (Shr.expect _).ok hq1.out
  clear hT hf hi
  go_wp2_with fail
  refine (until_stmt c _ m S enters_stmt HST.out HSTR.out ts1 _ (by exact HI1.out.fr (X := []) H.out (by repeat' (first | (with_reducible first | exact Fr.refl _ _ | refine Fr.setCell ?_ (Or.inl ?_) _ | refine Fr.alloc ?_ _ | refine Fr.drewN ?_ _) | (simp; done))) (by simp)) (by omega)).mono ?_
  rintro e w2 hp
  rcases hp.cases with ⟨x2, ts2, v2, hq2, hf, hi, rfl, hv⟩ | ⟨ts2, hq2, hf, hi, rfl⟩
  ·clear hp
   obtain ⟨p2, n2, k2, rfl⟩ := row_shp hv
   have hV2 := row_own (b := w.heap.size) hv (by first | omega | (simp; done) | (simp; omega)) (Fr.refl [] _) (by simp)
   have hT : Fr [c.R] w1 w2 := Fr.trans (by repeat' (first | (with_reducible first | exact Fr.refl _ _ | refine Fr.setCell ?_ (Or.inl ?_) _ | refine Fr.alloc ?_ _ | refine Fr.drewN ?_ _) | (simp; done))) hf.wide
   have HI2 := Lib.hid hi
   have HF2 := Lib.hid (HF1.out.join hT (by simp))
   have hz2 := hf.size
   try simp at hz2
   have HV2 := Lib.hid hV2
   have hl2 : ts2.length ≤ ts1.length := (Shr.until HSH.out).ok hq2.out
   clear hT hf hi hV2 hv
   go_wp2_with fail
   go_ret
   exact RP.ok (by simp only [Px.block, bind, Px.Rd.bind, offset_res, if_true, if_false, Bool.false_eq_true, hq1.out, hq2.out] <;> rfl) (HF2.out.join (X := []) (by repeat' (first | (with_reducible first | exact Fr.refl _ _ | refine Fr.setCell ?_ (Or.inl ?_) _ | refine Fr.alloc ?_ _ | refine Fr.drewN ?_ _) | (simp; done))) (by simp)) (HI2.out.fr (X := []) H.out (by repeat' (first | (with_reducible first | exact Fr.refl _ _ | refine Fr.setCell ?_ (Or.inl ?_) _ | refine Fr.alloc ?_ _ | refine Fr.drewN ?_ _) | (simp; done))) (by simp)) (row_own (b := w.heap.size) HV2.out (by first | omega | (simp; done) | (simp; omega)) (X := []) (by repeat' (first | (with_reducible first | exact Fr.refl _ _ | refine Fr.setCell ?_ (Or.inl ?_) _ | refine Fr.alloc ?_ _ | refine Fr.drewN ?_ _) | (simp; done))) (by first | omega | (simp; done) | (simp; omega)))
  ·go_wp2_with fail
   exact ⟨rfl, RP.bad (by simp only [Px.block, bind, Px.Rd.bind, offset_res, if_true, if_false, Bool.false_eq_true, hq1.out, hq2.out]) (HF1.out.join (X := []) (Fr.trans (by repeat' (first | (with_reducible first | exact Fr.refl _ _ | refine Fr.setCell ?_ (Or.inl ?_) _ | refine Fr.alloc ?_ _ | refine Fr.drewN ?_ _) | (simp; done))) hf.wide) (by simp)) hi⟩
 ·go_wp2_with fail
  exact ⟨rfl, RP.bad (by simp only [Px.block, bind, Px.Rd.bind, offset_res, if_true, if_false, Bool.false_eq_true, hq1.out]) ((Fr.refl [c.R] w).join (X := []) (Fr.trans (by repeat' (first | (with_reducible first | exact Fr.refl _ _ | refine Fr.setCell ?_ (Or.inl ?_) _ | refine Fr.alloc ?_ _ | refine Fr.drewN ?_ _) | (simp; done))) hf.wide) (by simp)) hi⟩
set_option maxRecDepth 100000 in
set_option maxHeartbeats 1600000 in
theorem arm_any (c : Ctx) (ts : List Tk) (w : World) (h : Inv c ts w) (n m : Nat) (S : Px.Rd StmtD) (hty : Reads c 189 n (okAgg typeQ) (Px.typeF c.size n)) (hst : Reads c 233 m (okAgg stmtQ) S) (hsh : Shr S) (hstr : Strict S) (hm : ts.length < n) (hm2 : ts.length < m) :
  Calls Tryz.prog 192 #[.pointer (some ⟨c.R, 0, none⟩)] w (RP c w (okAgg armQ) (Px.arm c.size S ts)) := by
 have HTY : Hid (Reads c 189 n (okAgg typeQ) (Px.typeF c.size n)) := Lib.hid hty
 have HST : Hid (Reads c 233 m (okAgg stmtQ) S) := Lib.hid hst
 have HSH := Lib.hid hsh
 have HSTR : Hid (Strict S) := Lib.hid hstr
 clear hty hst hsh hstr
 have hmf := make_func
 have H := Lib.hid h
 have HR0 := H.out.lt.1
 clear h
 go_enter Tryz.func192, Tryz.ntmps192
 go_wp2_with fail
 refine (offset_any c ts _ (by exact H.out.fr (X := []) H.out (by repeat' (first | (with_reducible first | exact Fr.refl _ _ | refine Fr.setCell ?_ (Or.inl ?_) _ | refine Fr.alloc ?_ _ | refine Fr.drewN ?_ _) | (simp; done))) (by simp))).mono ?_
 rintro e w' ⟨rfl, rfl⟩
 go_wp2_with fail
 refine (name_any c ts _ (by exact H.out.fr (X := [w.heap.size + 1]) H.out (by repeat' (first | (with_reducible first | exact Fr.refl _ _ | refine Fr.setCell ?_ (Or.inl ?_) _ | refine Fr.alloc ?_ _ | refine Fr.drewN ?_ _) | (simp; done))) (by simp))).mono ?_
 rintro e w1 hp
 rcases hp.cases with ⟨x1, ts1, v1, hq1, hf, hi, rfl, hv⟩ | ⟨ts1, hq1, hf, hi, rfl⟩
 ·clear hp
  obtain rfl := hv
  have hT : Fr [c.R, w.heap.size + 1] w w1 := Fr.trans (by repeat' (first | (with_reducible first | exact Fr.refl _ _ | refine Fr.setCell ?_ (Or.inl ?_) _ | refine Fr.alloc ?_ _ | refine Fr.drewN ?_ _) | (simp; done))) hf.wide
  have HD1 : Hid (Blk w1 (w.heap.size + 1) 216 #[.string ⟨#[]⟩, .slice none 0 0, .slice none 0 0, .int .i64 (offOf c.size ts)]) := Lib.hid ((Blk.new_at (by simp)).keep hf (by simp; omega))
  have HB1 : Hid (Blk w1 (w.heap.size) 216 #[.string ⟨#[]⟩, .slice none 0 0, .slice none 0 0, .int .i64 0]) := Lib.hid ((Blk.alloc (Blk.new w _ _) _).keep hf (by simp; omega))
  have HI1 := Lib.hid hi
  have HF1 := Lib.hid ((Fr.refl [c.R] w).join hT (by simp))
  have hz1 := hf.size
  try simp at hz1
  have hl1 : ts1.length < ts.length := Strict.name _ _ _ hq1.out
  clear hT hf hi
  have hlD : w.heap.size + 1 < w1.heap.size := HD1.out.lt
  have d0 : w1.cell? ⟨w.heap.size + 1, 0, none⟩ = some (.string ⟨#[]⟩) := HD1.out.cell 0
  have f0 : w1.frozen? ⟨w.heap.size + 1, 0, none⟩ = false := HD1.out.frozen 0
  go_wp2_with fail
  clear hlD d0 f0
  refine (opt_str c _ (ts1.length + 1) _ enters_name (reads_name c _) Shr.name [40] [41] (by decide) (by decide) ts1 _ (by exact HI1.out.fr (X := [w.heap.size + 1]) H.out (by repeat' (first | (with_reducible first | exact Fr.refl _ _ | refine Fr.setCell ?_ (Or.inl ?_) _ | refine Fr.alloc ?_ _ | refine Fr.drewN ?_ _) | (simp; done))) (by simp)) (by omega)).mono ?_
  rintro e w2 hp
  rcases hp.cases with ⟨x2, ts2, v2, hq2, hf, hi, rfl, hv⟩ | ⟨ts2, hq2, hf, hi, rfl⟩
  ·clear hp
   obtain ⟨p2, n2, k2, rfl⟩ := row_shp hv
   have hV2 := row_own (b := w.heap.size + 2) hv (by first | omega | (simp; done) | (simp; omega)) (Fr.refl [] _) (by simp)
   have hT : Fr [c.R, w.heap.size + 1] w1 w2 := Fr.trans (by repeat' (first | (with_reducible first | exact Fr.refl _ _ | refine Fr.setCell ?_ (Or.inl ?_) _ | refine Fr.alloc ?_ _ | refine Fr.drewN ?_ _) | (simp; done))) hf.wide
   have HD2 : Hid (Blk w2 (w.heap.size + 1) 216 #[.string ⟨x1.toArray⟩, .slice none 0 0, .slice none 0 0, .int .i64 (offOf c.size ts)]) := Lib.hid ((HD1.out.set 0 (.string ⟨x1.toArray⟩)).keep hf (by simp; omega))
   have HB2 : Hid (Blk w2 (w.heap.size) 216 #[.string ⟨#[]⟩, .slice none 0 0, .slice none 0 0, .int .i64 0]) := Lib.hid (HB1.out.keep hT (by simp; omega))
   have HI2 := Lib.hid hi
   have HF2 := Lib.hid (HF1.out.join hT (by simp))
   have hz2 := hf.size
   try simp at hz2
   have HV2 := Lib.hid hV2
   have hl2 : ts2.length ≤ ts1.length := (Shr.opt Shr.name _ _).ok hq2.out
   clear hT hf hi hV2 hv
   have hlD : w.heap.size + 1 < w2.heap.size := HD2.out.lt
   have d1 : w2.cell? ⟨w.heap.size + 1, 1, none⟩ = some (.slice none 0 0) := HD2.out.cell 1
   have f1 : w2.frozen? ⟨w.heap.size + 1, 1, none⟩ = false := HD2.out.frozen 1
   go_wp2_with fail
   clear hlD d1 f1
   refine (block_any c ts2 _ (by exact HI2.out.fr (X := [w.heap.size + 1]) H.out (by repeat' (first | (with_reducible first | exact Fr.refl _ _ | refine Fr.setCell ?_ (Or.inl ?_) _ | refine Fr.alloc ?_ _ | refine Fr.drewN ?_ _) | (simp; done))) (by simp)) n m S HTY.out HST.out HSH.out HSTR.out (by omega) (by omega)).mono ?_
   rintro e w3 hp
   rcases hp.cases with ⟨x3, ts3, v3, hq3, hf, hi, rfl, hv⟩ | ⟨ts3, hq3, hf, hi, rfl⟩
   ·clear hp
    obtain ⟨p3, n3, k3, rfl⟩ := row_shp hv
    have hV3 := row_own (b := w.heap.size + 2) hv (by first | omega | (simp; done) | (simp; omega)) (Fr.refl [] _) (by simp)
    have hT : Fr [c.R, w.heap.size + 1] w2 w3 := Fr.trans (by repeat' (first | (with_reducible first | exact Fr.refl _ _ | refine Fr.setCell ?_ (Or.inl ?_) _ | refine Fr.alloc ?_ _ | refine Fr.drewN ?_ _) | (simp; done))) hf.wide
    have HD3 : Hid (Blk w3 (w.heap.size + 1) 216 #[.string ⟨x1.toArray⟩, .slice p2 n2 k2, .slice none 0 0, .int .i64 (offOf c.size ts)]) := Lib.hid ((HD2.out.set 1 (.slice p2 n2 k2)).keep hf (by simp; omega))
    have HB3 : Hid (Blk w3 (w.heap.size) 216 #[.string ⟨#[]⟩, .slice none 0 0, .slice none 0 0, .int .i64 0]) := Lib.hid (HB2.out.keep hT (by simp; omega))
    have HV2_3 := Lib.hid (row_own HV2.out (Nat.le_refl _) hT (by simp; omega))
    have HI3 := Lib.hid hi
    have HF3 := Lib.hid (HF2.out.join hT (by simp))
    have hz3 := hf.size
    try simp at hz3
    have HV3 := Lib.hid hV3
    have hl3 : ts3.length ≤ ts2.length := (shr_block HSH.out).ok hq3.out
    clear hT hf hi hV3 hv
    have hlB : w.heap.size < w3.heap.size := by omega
    have hlD : w.heap.size + 1 < w3.heap.size := HD3.out.lt
    have d0 : w3.cell? ⟨w.heap.size + 1, 0, none⟩ = some (.string ⟨x1.toArray⟩) := HD3.out.cell 0
    have d1 : w3.cell? ⟨w.heap.size + 1, 1, none⟩ = some (.slice p2 n2 k2) := HD3.out.cell 1
    have d2 : w3.cell? ⟨w.heap.size + 1, 2, none⟩ = some (.slice none 0 0) := HD3.out.cell 2
    have d3 : w3.cell? ⟨w.heap.size + 1, 3, none⟩ = some (.int .i64 (offOf c.size ts)) := HD3.out.cell 3
    have f2 : w3.frozen? ⟨w.heap.size + 1, 2, none⟩ = false := HD3.out.frozen 2
    have b0 : w3.cell? ⟨w.heap.size, 0, none⟩ = some (.string ⟨#[]⟩) := HB3.out.cell 0
    have b1 : w3.cell? ⟨w.heap.size, 1, none⟩ = some (.slice none 0 0) := HB3.out.cell 1
    have b2 : w3.cell? ⟨w.heap.size, 2, none⟩ = some (.slice none 0 0) := HB3.out.cell 2
    have b3 : w3.cell? ⟨w.heap.size, 3, none⟩ = some (.int .i64 0) := HB3.out.cell 3
    have g0 : w3.frozen? ⟨w.heap.size, 0, none⟩ = false := HB3.out.frozen 0
    have g1 : w3.frozen? ⟨w.heap.size, 1, none⟩ = false := HB3.out.frozen 1
    have g2 : w3.frozen? ⟨w.heap.size, 2, none⟩ = false := HB3.out.frozen 2
    have g3 : w3.frozen? ⟨w.heap.size, 3, none⟩ = false := HB3.out.frozen 3
    go_wp2_with fail
    refine bodyPost_ret (v := .agg #[.string ⟨x1.toArray⟩, .slice p2 n2 k2, .slice p3 n3 k3, .int .i64 (offOf c.size ts)]) (by simp [results, Tryz.results192, go_sem, hlB, hlD, d0, d1, d2, d3, f2, b0, b1, b2, b3, g0, g1, g2, g3]) rfl ?_
    clear hlB hlD d0 d1 d2 d3 f2 b0 b1 b2 b3 g0 g1 g2 g3
    exact RP.ok (a := .mk x1 x2 x3 (offOf c.size ts)) (by simp only [Px.arm, bind, Px.Rd.bind, offset_res, if_true, if_false, Bool.false_eq_true, hq1.out, hq2.out, hq3.out] <;> rfl) (HF3.out.join (X := [w.heap.size + 1, w.heap.size]) (by repeat' (first | (with_reducible first | exact Fr.refl _ _ | refine Fr.setCell ?_ (Or.inl ?_) _ | refine Fr.alloc ?_ _ | refine Fr.drewN ?_ _) | (simp; done))) (by simp)) (HI3.out.fr (X := [w.heap.size + 1, w.heap.size]) H.out (by repeat' (first | (with_reducible first | exact Fr.refl _ _ | refine Fr.setCell ?_ (Or.inl ?_) _ | refine Fr.alloc ?_ _ | refine Fr.drewN ?_ _) | (simp; done))) (by simp)) ⟨[.string ⟨x1.toArray⟩, .slice p2 n2 k2, .slice p3 n3 k3, .int .i64 (offOf c.size ts)], rfl, by rw [armQ_mk]; exact rep_str.2 ⟨_, rfl, rep_sl.2 ⟨_, _, rfl, (row_own (b := w.heap.size) HV2_3.out (by first | omega | (simp; done) | (simp; omega)) (X := [w.heap.size + 1, w.heap.size]) (by repeat' (first | (with_reducible first | exact Fr.refl _ _ | refine Fr.setCell ?_ (Or.inl ?_) _ | refine Fr.alloc ?_ _ | refine Fr.drewN ?_ _) | (simp; done))) (by first | omega | (simp; done) | (simp; omega))), rep_sl.2 ⟨_, _, rfl, (row_own (b := w.heap.size) HV3.out (by first | omega | (simp; done) | (simp; omega)) (X := [w.heap.size + 1, w.heap.size]) (by repeat' (first | (with_reducible first | exact Fr.refl _ _ | refine Fr.setCell ?_ (Or.inl ?_) _ | refine Fr.alloc ?_ _ | refine Fr.drewN ?_ _) | (simp; done))) (by first | omega | (simp; done) | (simp; omega))), rep_int.2 ⟨_, rfl, rep_nil.2 rfl⟩⟩⟩⟩⟩
   ·go_wp2_with fail
    exact ⟨rfl, RP.bad (by simp only [Px.arm, bind, Px.Rd.bind, offset_res, if_true, if_false, Bool.false_eq_true, hq1.out, hq2.out, hq3.out]) (HF2.out.join (X := [w.heap.size + 1]) (Fr.trans (by repeat' (first | (with_reducible first | exact Fr.refl _ _ | refine Fr.setCell ?_ (Or.inl ?_) _ | refine Fr.alloc ?_ _ | refine Fr.drewN ?_ _) | (simp; done))) hf.wide) (by simp)) hi⟩
  ·go_wp2_with fail
   exact ⟨rfl, RP.bad (by simp only [Px.arm, bind, Px.Rd.bind, offset_res, if_true, if_false, Bool.false_eq_true, hq1.out, hq2.out]) (HF1.out.join (X := [w.heap.size + 1]) (Fr.trans (by repeat' (first | (with_reducible first | exact Fr.refl _ _ | refine Fr.setCell ?_ (Or.inl ?_) _ | refine Fr.alloc ?_ _ | refine Fr.drewN ?_ _) | (simp; done))) hf.wide) (by simp)) hi⟩
 ·go_wp2_with fail
  exact ⟨rfl, RP.bad (by simp only [Px.arm, bind, Px.Rd.bind, offset_res, if_true, if_false, Bool.false_eq_true, hq1.out]) ((Fr.refl [c.R] w).join (X := [w.heap.size + 1]) (Fr.trans (by repeat' (first | (with_reducible first | exact Fr.refl _ _ | refine Fr.setCell ?_ (Or.inl ?_) _ | refine Fr.alloc ?_ _ | refine Fr.drewN ?_ _) | (simp; done))) hf.wide) (by simp)) hi⟩
set_option maxRecDepth 100000 in
set_option maxHeartbeats 1600000 in
theorem localFunction_any (c : Ctx) (off : Nat) (ts : List Tk) (w : World) (h : Inv c ts w) (n m : Nat) (S : Px.Rd StmtD) (hty : Reads c 189 n (okAgg typeQ) (Px.typeF c.size n)) (hst : Reads c 233 m (okAgg stmtQ) S) (hsh : Shr S) (hstr : Strict S) (hm : ts.length < n) (hm2 : ts.length < m) :
  Calls Tryz.prog 195 #[.pointer (some ⟨c.R, 0, none⟩), .int .i64 off] w (RP c w (okAgg funcQ) (Px.localFunction c.size n S off ts)) := by
 have HTY : Hid (Reads c 189 n (okAgg typeQ) (Px.typeF c.size n)) := Lib.hid hty
 have HST : Hid (Reads c 233 m (okAgg stmtQ) S) := Lib.hid hst
 have HSH := Lib.hid hsh
 have HSTR : Hid (Strict S) := Lib.hid hstr
 clear hty hst hsh hstr
 have hmf := make_func
 have H := Lib.hid h
 have HR0 := H.out.lt.1
 clear h
 go_enter Tryz.func195, Tryz.ntmps195
 go_wp2_with fail
 refine (name_any c ts _ (by exact H.out.fr (X := [w.heap.size + 1]) H.out (by repeat' (first | (with_reducible first | exact Fr.refl _ _ | refine Fr.setCell ?_ (Or.inl ?_) _ | refine Fr.alloc ?_ _ | refine Fr.drewN ?_ _) | (simp; done))) (by simp))).mono ?_
 rintro e w1 hp
 rcases hp.cases with ⟨x1, ts1, v1, hq1, hf, hi, rfl, hv⟩ | ⟨ts1, hq1, hf, hi, rfl⟩
 ·clear hp
  obtain rfl := hv
  have hT : Fr [c.R, w.heap.size + 1] w w1 := Fr.trans (by repeat' (first | (with_reducible first | exact Fr.refl _ _ | refine Fr.setCell ?_ (Or.inl ?_) _ | refine Fr.alloc ?_ _ | refine Fr.drewN ?_ _) | (simp; done))) hf.wide
  have HD1 : Hid (Blk w1 (w.heap.size + 1) 54 #[.string ⟨#[]⟩, .slice none 0 0, .slice none 0 0, .slice none 0 0, .slice none 0 0, .string ⟨#[]⟩, .slice none 0 0, .int .i64 0, .slice none 0 0, .int .i64 off]) := Lib.hid ((Blk.new_at (by simp)).keep hf (by simp; omega))
  have HB1 : Hid (Blk w1 (w.heap.size) 54 #[.string ⟨#[]⟩, .slice none 0 0, .slice none 0 0, .slice none 0 0, .slice none 0 0, .string ⟨#[]⟩, .slice none 0 0, .int .i64 0, .slice none 0 0, .int .i64 0]) := Lib.hid ((Blk.alloc (Blk.new w _ _) _).keep hf (by simp; omega))
  have HI1 := Lib.hid hi
  have HF1 := Lib.hid ((Fr.refl [c.R] w).join hT (by simp))
  have hz1 := hf.size
  try simp at hz1
  have hl1 : ts1.length < ts.length := Strict.name _ _ _ hq1.out
  clear hT hf hi
  have hlD : w.heap.size + 1 < w1.heap.size := HD1.out.lt
  have d0 : w1.cell? ⟨w.heap.size + 1, 0, none⟩ = some (.string ⟨#[]⟩) := HD1.out.cell 0
  have f0 : w1.frozen? ⟨w.heap.size + 1, 0, none⟩ = false := HD1.out.frozen 0
  go_wp2_with fail
  clear hlD d0 f0
  refine (pos_arg c _ n _ enters_capture (reads_capture c n HTY.out) (shr_capture _ _) [91] [93] (by decide) (by decide) ts1 _ (by exact HI1.out.fr (X := [w.heap.size + 1]) H.out (by repeat' (first | (with_reducible first | exact Fr.refl _ _ | refine Fr.setCell ?_ (Or.inl ?_) _ | refine Fr.alloc ?_ _ | refine Fr.drewN ?_ _) | (simp; done))) (by simp)) (by omega)).mono ?_
  rintro e w2 hp
  rcases hp.cases with ⟨x2, ts2, v2, hq2, hf, hi, rfl, hv⟩ | ⟨ts2, hq2, hf, hi, rfl⟩
  ·clear hp
   obtain ⟨p2, n2, k2, rfl⟩ := row_shp hv
   have hV2 := row_own (b := w.heap.size + 2) hv (by first | omega | (simp; done) | (simp; omega)) (Fr.refl [] _) (by simp)
   have hT : Fr [c.R, w.heap.size + 1] w1 w2 := Fr.trans (by repeat' (first | (with_reducible first | exact Fr.refl _ _ | refine Fr.setCell ?_ (Or.inl ?_) _ | refine Fr.alloc ?_ _ | refine Fr.drewN ?_ _) | (simp; done))) hf.wide
   have HD2 : Hid (Blk w2 (w.heap.size + 1) 54 #[.string ⟨x1.toArray⟩, .slice none 0 0, .slice none 0 0, .slice none 0 0, .slice none 0 0, .string ⟨#[]⟩, .slice none 0 0, .int .i64 0, .slice none 0 0, .int .i64 off]) := Lib.hid ((HD1.out.set 0 (.string ⟨x1.toArray⟩)).keep hf (by simp; omega))
   have HB2 : Hid (Blk w2 (w.heap.size) 54 #[.string ⟨#[]⟩, .slice none 0 0, .slice none 0 0, .slice none 0 0, .slice none 0 0, .string ⟨#[]⟩, .slice none 0 0, .int .i64 0, .slice none 0 0, .int .i64 0]) := Lib.hid (HB1.out.keep hT (by simp; omega))
   have HI2 := Lib.hid hi
   have HF2 := Lib.hid (HF1.out.join hT (by simp))
   have hz2 := hf.size
   try simp at hz2
   have HV2 := Lib.hid hV2
   have hl2 : ts2.length ≤ ts1.length := (Shr.pos (shr_capture _ _) _ _).ok hq2.out
   clear hT hf hi hV2 hv
   have hlD : w.heap.size + 1 < w2.heap.size := HD2.out.lt
   have d3 : w2.cell? ⟨w.heap.size + 1, 3, none⟩ = some (.slice none 0 0) := HD2.out.cell 3
   have f3 : w2.frozen? ⟨w.heap.size + 1, 3, none⟩ = false := HD2.out.frozen 3
   go_wp2_with fail
   clear hlD d3 f3
   refine (signature_any c (.string ⟨x1.toArray⟩) (.slice none 0 0) (.slice none 0 0) (.slice p2 n2 k2) (.slice none 0 0) (.int .i64 off) ts2 _ (by exact HI2.out.fr (X := [w.heap.size + 1]) H.out (by repeat' (first | (with_reducible first | exact Fr.refl _ _ | refine Fr.setCell ?_ (Or.inl ?_) _ | refine Fr.alloc ?_ _ | refine Fr.drewN ?_ _) | (simp; done))) (by simp)) (w.heap.size + 1) (H.out.apart (by simp)) (by exact (HD2.out.set 3 (.slice p2 n2 k2))) n HTY.out (by omega)).mono ?_
   rintro e w3 hp
   rcases hp.cases with ⟨x3, ts3, cs3, hq3, hf, hi, rfl, hDn, hv⟩ | ⟨ts3, hq3, hf, hi, rfl⟩
   ·clear hp
    obtain ⟨p3, n3, k3, s3_0, p3_1, n3_1, c3_1, i3_2, rfl, hrow, hrep⟩ := hv
    have hT : Fr [c.R, w.heap.size + 1] w2 w3 := Fr.trans (by repeat' (first | (with_reducible first | exact Fr.refl _ _ | refine Fr.setCell ?_ (Or.inl ?_) _ | refine Fr.alloc ?_ _ | refine Fr.drewN ?_ _) | (simp; done))) hf
    have HD3 : Hid (Blk w3 (w.heap.size + 1) 54 #[.string ⟨x1.toArray⟩, .slice none 0 0, .slice none 0 0, .slice p2 n2 k2, .slice p3 n3 k3, .string s3_0, .slice p3_1 n3_1 c3_1, .int .i64 i3_2, .slice none 0 0, .int .i64 off]) := Lib.hid hDn
    have HB3 : Hid (Blk w3 (w.heap.size) 54 #[.string ⟨#[]⟩, .slice none 0 0, .slice none 0 0, .slice none 0 0, .slice none 0 0, .string ⟨#[]⟩, .slice none 0 0, .int .i64 0, .slice none 0 0, .int .i64 0]) := Lib.hid (HB2.out.keep hT (by simp; omega))
    have hV3a := row_own (b := w.heap.size + 2) hrow (by first | omega | (simp; done) | (simp; omega)) (Fr.refl [] _) (by simp)
    have hV3b : Rep w3 (fun k => w.heap.size + 2 ≤ k) _ _ := hrep.mono (fun k hk _ => ⟨by (try simp at hk); omega, rfl⟩)
    have HV2_3 := Lib.hid (row_own HV2.out (Nat.le_refl _) hT (by simp; omega))
    have HV3a := Lib.hid hV3a
    have HV3b := Lib.hid hV3b
    have HI3 := Lib.hid hi
    have HF3 := Lib.hid (HF2.out.join hT (by simp))
    have hz3 := hf.size
    try simp at hz3
    have hl3 : ts3.length ≤ ts2.length := (shr_signature _ _).ok hq3.out
    clear hT hf hi hrow hrep hV3a hV3b hDn
    have hlD : w.heap.size + 1 < w3.heap.size := HD3.out.lt
    go_wp2_with fail
    clear hlD
    refine (block_any c ts3 _ (by exact HI3.out.fr (X := [w.heap.size + 1]) H.out (by repeat' (first | (with_reducible first | exact Fr.refl _ _ | refine Fr.setCell ?_ (Or.inl ?_) _ | refine Fr.alloc ?_ _ | refine Fr.drewN ?_ _) | (simp; done))) (by simp)) n m S HTY.out HST.out HSH.out HSTR.out (by omega) (by omega)).mono ?_
    rintro e w4 hp
    rcases hp.cases with ⟨x4, ts4, v4, hq4, hf, hi, rfl, hv⟩ | ⟨ts4, hq4, hf, hi, rfl⟩
    ·clear hp
     obtain ⟨p4, n4, k4, rfl⟩ := row_shp hv
     have hV4 := row_own (b := w.heap.size + 2) hv (by first | omega | (simp; done) | (simp; omega)) (Fr.refl [] _) (by simp)
     have hT : Fr [c.R, w.heap.size + 1] w3 w4 := Fr.trans (by repeat' (first | (with_reducible first | exact Fr.refl _ _ | refine Fr.setCell ?_ (Or.inl ?_) _ | refine Fr.alloc ?_ _ | refine Fr.drewN ?_ _) | (simp; done))) hf.wide
     have HD4 : Hid (Blk w4 (w.heap.size + 1) 54 #[.string ⟨x1.toArray⟩, .slice none 0 0, .slice none 0 0, .slice p2 n2 k2, .slice p3 n3 k3, .string s3_0, .slice p3_1 n3_1 c3_1, .int .i64 i3_2, .slice none 0 0, .int .i64 off]) := Lib.hid (HD3.out.keep hf (by simp; omega))
     have HB4 : Hid (Blk w4 (w.heap.size) 54 #[.string ⟨#[]⟩, .slice none 0 0, .slice none 0 0, .slice none 0 0, .slice none 0 0, .string ⟨#[]⟩, .slice none 0 0, .int .i64 0, .slice none 0 0, .int .i64 0]) := Lib.hid (HB3.out.keep hT (by simp; omega))
     have HV2_4 := Lib.hid (row_own HV2_3.out (Nat.le_refl _) hT (by simp; omega))
     have HV3a_4 := Lib.hid (row_own HV3a.out (Nat.le_refl _) hT (by simp; omega))
     have HV3b_4 := Lib.hid (rep_own HV3b.out hT (by simp; omega))
     have HI4 := Lib.hid hi
     have HF4 := Lib.hid (HF3.out.join hT (by simp))
     have hz4 := hf.size
     try simp at hz4
     have HV4 := Lib.hid hV4
     have hl4 : ts4.length ≤ ts3.length := (shr_block HSH.out).ok hq4.out
     clear hT hf hi hV4 hv
     have hlB : w.heap.size < w4.heap.size := by omega
     have hlD : w.heap.size + 1 < w4.heap.size := HD4.out.lt
     have d0 : w4.cell? ⟨w.heap.size + 1, 0, none⟩ = some (.string ⟨x1.toArray⟩) := HD4.out.cell 0
     have d1 : w4.cell? ⟨w.heap.size + 1, 1, none⟩ = some (.slice none 0 0) := HD4.out.cell 1
     have d2 : w4.cell? ⟨w.heap.size + 1, 2, none⟩ = some (.slice none 0 0) := HD4.out.cell 2
     have d3 : w4.cell? ⟨w.heap.size + 1, 3, none⟩ = some (.slice p2 n2 k2) := HD4.out.cell 3
     have d4 : w4.cell? ⟨w.heap.size + 1, 4, none⟩ = some (.slice p3 n3 k3) := HD4.out.cell 4
     have d5 : w4.cell? ⟨w.heap.size + 1, 5, none⟩ = some (.string s3_0) := HD4.out.cell 5
     have d6 : w4.cell? ⟨w.heap.size + 1, 6, none⟩ = some (.slice p3_1 n3_1 c3_1) := HD4.out.cell 6
     have d7 : w4.cell? ⟨w.heap.size + 1, 7, none⟩ = some (.int .i64 i3_2) := HD4.out.cell 7
     have d8 : w4.cell? ⟨w.heap.size + 1, 8, none⟩ = some (.slice none 0 0) := HD4.out.cell 8
     have d9 : w4.cell? ⟨w.heap.size + 1, 9, none⟩ = some (.int .i64 off) := HD4.out.cell 9
     have f8 : w4.frozen? ⟨w.heap.size + 1, 8, none⟩ = false := HD4.out.frozen 8
     have b0 : w4.cell? ⟨w.heap.size, 0, none⟩ = some (.string ⟨#[]⟩) := HB4.out.cell 0
     have b1 : w4.cell? ⟨w.heap.size, 1, none⟩ = some (.slice none 0 0) := HB4.out.cell 1
     have b2 : w4.cell? ⟨w.heap.size, 2, none⟩ = some (.slice none 0 0) := HB4.out.cell 2
     have b3 : w4.cell? ⟨w.heap.size, 3, none⟩ = some (.slice none 0 0) := HB4.out.cell 3
     have b4 : w4.cell? ⟨w.heap.size, 4, none⟩ = some (.slice none 0 0) := HB4.out.cell 4
     have b5 : w4.cell? ⟨w.heap.size, 5, none⟩ = some (.string ⟨#[]⟩) := HB4.out.cell 5
     have b6 : w4.cell? ⟨w.heap.size, 6, none⟩ = some (.slice none 0 0) := HB4.out.cell 6
     have b7 : w4.cell? ⟨w.heap.size, 7, none⟩ = some (.int .i64 0) := HB4.out.cell 7
     have b8 : w4.cell? ⟨w.heap.size, 8, none⟩ = some (.slice none 0 0) := HB4.out.cell 8
     have b9 : w4.cell? ⟨w.heap.size, 9, none⟩ = some (.int .i64 0) := HB4.out.cell 9
     have g0 : w4.frozen? ⟨w.heap.size, 0, none⟩ = false := HB4.out.frozen 0
     have g1 : w4.frozen? ⟨w.heap.size, 1, none⟩ = false := HB4.out.frozen 1
     have g2 : w4.frozen? ⟨w.heap.size, 2, none⟩ = false := HB4.out.frozen 2
     have g3 : w4.frozen? ⟨w.heap.size, 3, none⟩ = false := HB4.out.frozen 3
     have g4 : w4.frozen? ⟨w.heap.size, 4, none⟩ = false := HB4.out.frozen 4
     have g5 : w4.frozen? ⟨w.heap.size, 5, none⟩ = false := HB4.out.frozen 5
     have g6 : w4.frozen? ⟨w.heap.size, 6, none⟩ = false := HB4.out.frozen 6
     have g7 : w4.frozen? ⟨w.heap.size, 7, none⟩ = false := HB4.out.frozen 7
     have g8 : w4.frozen? ⟨w.heap.size, 8, none⟩ = false := HB4.out.frozen 8
     have g9 : w4.frozen? ⟨w.heap.size, 9, none⟩ = false := HB4.out.frozen 9
     go_wp2_with fail
     refine bodyPost_ret (v := .agg #[.string ⟨x1.toArray⟩, .slice none 0 0, .slice none 0 0, .slice p2 n2 k2, .slice p3 n3 k3, .string s3_0, .slice p3_1 n3_1 c3_1, .int .i64 i3_2, .slice p4 n4 k4, .int .i64 off]) (by simp [results, Tryz.results195, go_sem, hlB, hlD, d0, d1, d2, d3, d4, d5, d6, d7, d8, d9, f8, b0, b1, b2, b3, b4, b5, b6, b7, b8, b9, g0, g1, g2, g3, g4, g5, g6, g7, g8, g9]) rfl ?_
     clear hlB hlD d0 d1 d2 d3 d4 d5 d6 d7 d8 d9 f8 b0 b1 b2 b3 b4 b5 b6 b7 b8 b9 g0 g1 g2 g3 g4 g5 g6 g7 g8 g9
     exact RP.ok (a := .mk x1 [] [] x2 x3.1 x3.2 x4 off) (by simp only [Px.localFunction, bind, Px.Rd.bind, offset_res, if_true, if_false, Bool.false_eq_true, hq1.out, hq2.out, hq3.out, hq4.out] <;> rfl) (HF4.out.join (X := [w.heap.size + 1, w.heap.size]) (by repeat' (first | (with_reducible first | exact Fr.refl _ _ | refine Fr.setCell ?_ (Or.inl ?_) _ | refine Fr.alloc ?_ _ | refine Fr.drewN ?_ _) | (simp; done))) (by simp)) (HI4.out.fr (X := [w.heap.size + 1, w.heap.size]) H.out (by repeat' (first | (with_reducible first | exact Fr.refl _ _ | refine Fr.setCell ?_ (Or.inl ?_) _ | refine Fr.alloc ?_ _ | refine Fr.drewN ?_ _) | (simp; done))) (by simp)) ⟨[.string ⟨x1.toArray⟩, .slice none 0 0, .slice none 0 0, .slice p2 n2 k2, .slice p3 n3 k3, .string s3_0, .slice p3_1 n3_1 c3_1, .int .i64 i3_2, .slice p4 n4 k4, .int .i64 off], rfl, by rw [funcQ_mk]; exact rep_str.2 ⟨_, rfl, rep_sl.2 ⟨_, _, rfl, RowV.nil _ _ _ _, rep_sl.2 ⟨_, _, rfl, RowV.nil _ _ _ _, rep_sl.2 ⟨_, _, rfl, (row_own (b := w.heap.size) HV2_4.out (by first | omega | (simp; done) | (simp; omega)) (X := [w.heap.size + 1, w.heap.size]) (by repeat' (first | (with_reducible first | exact Fr.refl _ _ | refine Fr.setCell ?_ (Or.inl ?_) _ | refine Fr.alloc ?_ _ | refine Fr.drewN ?_ _) | (simp; done))) (by first | omega | (simp; done) | (simp; omega))), rep_sl.2 ⟨_, _, rfl, (row_own (b := w.heap.size) HV3a_4.out (by first | omega | (simp; done) | (simp; omega)) (X := [w.heap.size + 1, w.heap.size]) (by repeat' (first | (with_reducible first | exact Fr.refl _ _ | refine Fr.setCell ?_ (Or.inl ?_) _ | refine Fr.alloc ?_ _ | refine Fr.drewN ?_ _) | (simp; done))) (by first | omega | (simp; done) | (simp; omega))), Rep.app (cs := [.string s3_0, .slice p3_1 n3_1 c3_1, .int .i64 i3_2]) (rep_own (b := w.heap.size) HV3b_4.out (X := [w.heap.size + 1, w.heap.size]) (by repeat' (first | (with_reducible first | exact Fr.refl _ _ | refine Fr.setCell ?_ (Or.inl ?_) _ | refine Fr.alloc ?_ _ | refine Fr.drewN ?_ _) | (simp; done))) (by first | omega | (simp; done) | (simp; omega)) (by first | omega | (simp; done) | (simp; omega))) (rep_sl.2 ⟨_, _, rfl, (row_own (b := w.heap.size) HV4.out (by first | omega | (simp; done) | (simp; omega)) (X := [w.heap.size + 1, w.heap.size]) (by repeat' (first | (with_reducible first | exact Fr.refl _ _ | refine Fr.setCell ?_ (Or.inl ?_) _ | refine Fr.alloc ?_ _ | refine Fr.drewN ?_ _) | (simp; done))) (by first | omega | (simp; done) | (simp; omega))), rep_int.2 ⟨_, rfl, rep_nil.2 rfl⟩⟩)⟩⟩⟩⟩⟩⟩
    ·go_wp2_with fail
     exact ⟨rfl, RP.bad (by simp only [Px.localFunction, bind, Px.Rd.bind, offset_res, if_true, if_false, Bool.false_eq_true, hq1.out, hq2.out, hq3.out, hq4.out]) (HF3.out.join (X := [w.heap.size + 1]) (Fr.trans (by repeat' (first | (with_reducible first | exact Fr.refl _ _ | refine Fr.setCell ?_ (Or.inl ?_) _ | refine Fr.alloc ?_ _ | refine Fr.drewN ?_ _) | (simp; done))) hf.wide) (by simp)) hi⟩
   ·go_wp2_with fail
    exact ⟨rfl, RP.bad (by simp only [Px.localFunction, bind, Px.Rd.bind, offset_res, if_true, if_false, Bool.false_eq_true, hq1.out, hq2.out, hq3.out]) (HF2.out.join (Fr.trans (by repeat' (first | (with_reducible first | exact Fr.refl _ _ | refine Fr.setCell ?_ (Or.inl ?_) _ | refine Fr.alloc ?_ _ | refine Fr.drewN ?_ _) | (simp; done))) hf) (by simp)) hi⟩
  ·go_wp2_with fail
   exact ⟨rfl, RP.bad (by simp only [Px.localFunction, bind, Px.Rd.bind, offset_res, if_true, if_false, Bool.false_eq_true, hq1.out, hq2.out]) (HF1.out.join (X := [w.heap.size + 1]) (Fr.trans (by repeat' (first | (with_reducible first | exact Fr.refl _ _ | refine Fr.setCell ?_ (Or.inl ?_) _ | refine Fr.alloc ?_ _ | refine Fr.drewN ?_ _) | (simp; done))) hf.wide) (by simp)) hi⟩
 ·go_wp2_with fail
  exact ⟨rfl, RP.bad (by simp only [Px.localFunction, bind, Px.Rd.bind, offset_res, if_true, if_false, Bool.false_eq_true, hq1.out]) ((Fr.refl [c.R] w).join (X := [w.heap.size + 1]) (Fr.trans (by repeat' (first | (with_reducible first | exact Fr.refl _ _ | refine Fr.setCell ?_ (Or.inl ?_) _ | refine Fr.alloc ?_ _ | refine Fr.drewN ?_ _) | (simp; done))) hf.wide) (by simp)) hi⟩
set_option maxRecDepth 100000 in
set_option maxHeartbeats 1600000 in
theorem function_gen (c : Ctx) (off : Nat) (ts : List Tk) (w : World) (h : Inv c ts w) (n m : Nat) (S : Px.Rd StmtD) (hty : Reads c 189 n (okAgg typeQ) (Px.typeF c.size n)) (hst : Reads c 233 m (okAgg stmtQ) S) (hsh : Shr S) (hstr : Strict S) (hm : ts.length < n) (hm2 : ts.length < m) :
  Calls Tryz.prog 205 #[.pointer (some ⟨c.R, 0, none⟩), .int .i64 off] w (RP c w (okAgg funcQ) (functionS c.size n S off ts)) := by
 have HTY : Hid (Reads c 189 n (okAgg typeQ) (Px.typeF c.size n)) := Lib.hid hty
 have HST : Hid (Reads c 233 m (okAgg stmtQ) S) := Lib.hid hst
 have HSH := Lib.hid hsh
 have HSTR : Hid (Strict S) := Lib.hid hstr
 clear hty hst hsh hstr
 have hmf := make_func
 have H := Lib.hid h
 have HR0 := H.out.lt.1
 clear h
 go_enter Tryz.func205, Tryz.ntmps205
 go_wp2_with fail
 refine (name_any c ts _ (by exact H.out.fr (X := [w.heap.size + 1]) H.out (by repeat' (first | (with_reducible first | exact Fr.refl _ _ | refine Fr.setCell ?_ (Or.inl ?_) _ | refine Fr.alloc ?_ _ | refine Fr.drewN ?_ _) | (simp; done))) (by simp))).mono ?_
 rintro e w1 hp
 rcases hp.cases with ⟨x1, ts1, v1, hq1, hf, hi, rfl, hv⟩ | ⟨ts1, hq1, hf, hi, rfl⟩
 ·clear hp
  obtain rfl := hv
  have hT : Fr [c.R, w.heap.size + 1] w w1 := Fr.trans (by repeat' (first | (with_reducible first | exact Fr.refl _ _ | refine Fr.setCell ?_ (Or.inl ?_) _ | refine Fr.alloc ?_ _ | refine Fr.drewN ?_ _) | (simp; done))) hf.wide
  have HD1 : Hid (Blk w1 (w.heap.size + 1) 54 #[.string ⟨#[]⟩, .slice none 0 0, .slice none 0 0, .slice none 0 0, .slice none 0 0, .string ⟨#[]⟩, .slice none 0 0, .int .i64 0, .slice none 0 0, .int .i64 off]) := Lib.hid ((Blk.new_at (by simp)).keep hf (by simp; omega))
  have HB1 : Hid (Blk w1 (w.heap.size) 54 #[.string ⟨#[]⟩, .slice none 0 0, .slice none 0 0, .slice none 0 0, .slice none 0 0, .string ⟨#[]⟩, .slice none 0 0, .int .i64 0, .slice none 0 0, .int .i64 0]) := Lib.hid ((Blk.alloc (Blk.new w _ _) _).keep hf (by simp; omega))
  have HI1 := Lib.hid hi
  have HF1 := Lib.hid ((Fr.refl [c.R] w).join hT (by simp))
  have hz1 := hf.size
  try simp at hz1
  have hl1 : ts1.length < ts.length := Strict.name _ _ _ hq1.out
  clear hT hf hi
  have hlD : w.heap.size + 1 < w1.heap.size := HD1.out.lt
  have d0 : w1.cell? ⟨w.heap.size + 1, 0, none⟩ = some (.string ⟨#[]⟩) := HD1.out.cell 0
  have f0 : w1.frozen? ⟨w.heap.size + 1, 0, none⟩ = false := HD1.out.frozen 0
  go_wp2_with fail
  clear hlD d0 f0
  refine (params_any c ts1 _ (by exact HI1.out.fr (X := [w.heap.size + 1]) H.out (by repeat' (first | (with_reducible first | exact Fr.refl _ _ | refine Fr.setCell ?_ (Or.inl ?_) _ | refine Fr.alloc ?_ _ | refine Fr.drewN ?_ _) | (simp; done))) (by simp))).mono ?_
  rintro e w2 hp
  rcases hp.cases with ⟨x2, ts2, v2, hq2, hf, hi, rfl, hv⟩ | ⟨ts2, hq2, hf, hi, rfl⟩
  ·clear hp
   obtain ⟨p2, n2, k2, rfl⟩ := row_shp hv
   have hV2 := row_own (b := w.heap.size + 2) hv (by first | omega | (simp; done) | (simp; omega)) (Fr.refl [] _) (by simp)
   have hT : Fr [c.R, w.heap.size + 1] w1 w2 := Fr.trans (by repeat' (first | (with_reducible first | exact Fr.refl _ _ | refine Fr.setCell ?_ (Or.inl ?_) _ | refine Fr.alloc ?_ _ | refine Fr.drewN ?_ _) | (simp; done))) hf.wide
   have HD2 : Hid (Blk w2 (w.heap.size + 1) 54 #[.string ⟨x1.toArray⟩, .slice none 0 0, .slice none 0 0, .slice none 0 0, .slice none 0 0, .string ⟨#[]⟩, .slice none 0 0, .int .i64 0, .slice none 0 0, .int .i64 off]) := Lib.hid ((HD1.out.set 0 (.string ⟨x1.toArray⟩)).keep hf (by simp; omega))
   have HB2 : Hid (Blk w2 (w.heap.size) 54 #[.string ⟨#[]⟩, .slice none 0 0, .slice none 0 0, .slice none 0 0, .slice none 0 0, .string ⟨#[]⟩, .slice none 0 0, .int .i64 0, .slice none 0 0, .int .i64 0]) := Lib.hid (HB1.out.keep hT (by simp; omega))
   have HI2 := Lib.hid hi
   have HF2 := Lib.hid (HF1.out.join hT (by simp))
   have hz2 := hf.size
   try simp at hz2
   have HV2 := Lib.hid hV2
   have hl2 : ts2.length ≤ ts1.length := (shr_params).ok hq2.out
   clear hT hf hi hV2 hv
   have hlD : w.heap.size + 1 < w2.heap.size := HD2.out.lt
   have d1 : w2.cell? ⟨w.heap.size + 1, 1, none⟩ = some (.slice none 0 0) := HD2.out.cell 1
   have f1 : w2.frozen? ⟨w.heap.size + 1, 1, none⟩ = false := HD2.out.frozen 1
   go_wp2_with fail
   clear hlD d1 f1
   refine (signature_any c (.string ⟨x1.toArray⟩) (.slice p2 n2 k2) (.slice none 0 0) (.slice none 0 0) (.slice none 0 0) (.int .i64 off) ts2 _ (by exact HI2.out.fr (X := [w.heap.size + 1]) H.out (by repeat' (first | (with_reducible first | exact Fr.refl _ _ | refine Fr.setCell ?_ (Or.inl ?_) _ | refine Fr.alloc ?_ _ | refine Fr.drewN ?_ _) | (simp; done))) (by simp)) (w.heap.size + 1) (H.out.apart (by simp)) (by exact (HD2.out.set 1 (.slice p2 n2 k2))) n HTY.out (by omega)).mono ?_
   rintro e w3 hp
   rcases hp.cases with ⟨x3, ts3, cs3, hq3, hf, hi, rfl, hDn, hv⟩ | ⟨ts3, hq3, hf, hi, rfl⟩
   ·clear hp
    obtain ⟨p3, n3, k3, s3_0, p3_1, n3_1, c3_1, i3_2, rfl, hrow, hrep⟩ := hv
    have hT : Fr [c.R, w.heap.size + 1] w2 w3 := Fr.trans (by repeat' (first | (with_reducible first | exact Fr.refl _ _ | refine Fr.setCell ?_ (Or.inl ?_) _ | refine Fr.alloc ?_ _ | refine Fr.drewN ?_ _) | (simp; done))) hf
    have HD3 : Hid (Blk w3 (w.heap.size + 1) 54 #[.string ⟨x1.toArray⟩, .slice p2 n2 k2, .slice none 0 0, .slice none 0 0, .slice p3 n3 k3, .string s3_0, .slice p3_1 n3_1 c3_1, .int .i64 i3_2, .slice none 0 0, .int .i64 off]) := Lib.hid hDn
    have HB3 : Hid (Blk w3 (w.heap.size) 54 #[.string ⟨#[]⟩, .slice none 0 0, .slice none 0 0, .slice none 0 0, .slice none 0 0, .string ⟨#[]⟩, .slice none 0 0, .int .i64 0, .slice none 0 0, .int .i64 0]) := Lib.hid (HB2.out.keep hT (by simp; omega))
    have hV3a := row_own (b := w.heap.size + 2) hrow (by first | omega | (simp; done) | (simp; omega)) (Fr.refl [] _) (by simp)
    have hV3b : Rep w3 (fun k => w.heap.size + 2 ≤ k) _ _ := hrep.mono (fun k hk _ => ⟨by (try simp at hk); omega, rfl⟩)
    have HV2_3 := Lib.hid (row_own HV2.out (Nat.le_refl _) hT (by simp; omega))
    have HV3a := Lib.hid hV3a
    have HV3b := Lib.hid hV3b
    have HI3 := Lib.hid hi
    have HF3 := Lib.hid (HF2.out.join hT (by simp))
    have hz3 := hf.size
    try simp at hz3
    have hl3 : ts3.length ≤ ts2.length := (shr_signature _ _).ok hq3.out
    clear hT hf hi hrow hrep hV3a hV3b hDn
    have hlD : w.heap.size + 1 < w3.heap.size := HD3.out.lt
    go_wp2_with fail
    clear hlD
    refine (bounds_any c ts3 _ (by exact HI3.out.fr (X := [w.heap.size + 1]) H.out (by repeat' (first | (with_reducible first | exact Fr.refl _ _ | refine Fr.setCell ?_ (Or.inl ?_) _ | refine Fr.alloc ?_ _ | refine Fr.drewN ?_ _) | (simp; done))) (by simp))).mono ?_
    rintro e w4 hp
    rcases hp.cases with ⟨x4, ts4, v4, hq4, hf, hi, rfl, hv⟩ | ⟨ts4, hq4, hf, hi, rfl⟩
    ·clear hp
     obtain ⟨p4, n4, k4, rfl⟩ := row_shp hv
     have hV4 := row_own (b := w.heap.size + 2) hv (by first | omega | (simp; done) | (simp; omega)) (Fr.refl [] _) (by simp)
     have hT : Fr [c.R, w.heap.size + 1] w3 w4 := Fr.trans (by repeat' (first | (with_reducible first | exact Fr.refl _ _ | refine Fr.setCell ?_ (Or.inl ?_) _ | refine Fr.alloc ?_ _ | refine Fr.drewN ?_ _) | (simp; done))) hf.wide
     have HD4 : Hid (Blk w4 (w.heap.size + 1) 54 #[.string ⟨x1.toArray⟩, .slice p2 n2 k2, .slice none 0 0, .slice none 0 0, .slice p3 n3 k3, .string s3_0, .slice p3_1 n3_1 c3_1, .int .i64 i3_2, .slice none 0 0, .int .i64 off]) := Lib.hid (HD3.out.keep hf (by simp; omega))
     have HB4 : Hid (Blk w4 (w.heap.size) 54 #[.string ⟨#[]⟩, .slice none 0 0, .slice none 0 0, .slice none 0 0, .slice none 0 0, .string ⟨#[]⟩, .slice none 0 0, .int .i64 0, .slice none 0 0, .int .i64 0]) := Lib.hid (HB3.out.keep hT (by simp; omega))
     have HV2_4 := Lib.hid (row_own HV2_3.out (Nat.le_refl _) hT (by simp; omega))
     have HV3a_4 := Lib.hid (row_own HV3a.out (Nat.le_refl _) hT (by simp; omega))
     have HV3b_4 := Lib.hid (rep_own HV3b.out hT (by simp; omega))
     have HI4 := Lib.hid hi
     have HF4 := Lib.hid (HF3.out.join hT (by simp))
     have hz4 := hf.size
     try simp at hz4
     have HV4 := Lib.hid hV4
     have hl4 : ts4.length ≤ ts3.length := (shr_bounds _).ok hq4.out
     clear hT hf hi hV4 hv
     have hlD : w.heap.size + 1 < w4.heap.size := HD4.out.lt
     have d2 : w4.cell? ⟨w.heap.size + 1, 2, none⟩ = some (.slice none 0 0) := HD4.out.cell 2
     have f2 : w4.frozen? ⟨w.heap.size + 1, 2, none⟩ = false := HD4.out.frozen 2
     go_wp2_with fail
     clear hlD d2 f2
     refine (block_any c ts4 _ (by exact HI4.out.fr (X := [w.heap.size + 1]) H.out (by repeat' (first | (with_reducible first | exact Fr.refl _ _ | refine Fr.setCell ?_ (Or.inl ?_) _ | refine Fr.alloc ?_ _ | refine Fr.drewN ?_ _) | (simp; done))) (by simp)) n m S HTY.out HST.out HSH.out HSTR.out (by omega) (by omega)).mono ?_
     rintro e w5 hp
     rcases hp.cases with ⟨x5, ts5, v5, hq5, hf, hi, rfl, hv⟩ | ⟨ts5, hq5, hf, hi, rfl⟩
     ·clear hp
      obtain ⟨p5, n5, k5, rfl⟩ := row_shp hv
      have hV5 := row_own (b := w.heap.size + 2) hv (by first | omega | (simp; done) | (simp; omega)) (Fr.refl [] _) (by simp)
      have hT : Fr [c.R, w.heap.size + 1] w4 w5 := Fr.trans (by repeat' (first | (with_reducible first | exact Fr.refl _ _ | refine Fr.setCell ?_ (Or.inl ?_) _ | refine Fr.alloc ?_ _ | refine Fr.drewN ?_ _) | (simp; done))) hf.wide
      have HD5 : Hid (Blk w5 (w.heap.size + 1) 54 #[.string ⟨x1.toArray⟩, .slice p2 n2 k2, .slice p4 n4 k4, .slice none 0 0, .slice p3 n3 k3, .string s3_0, .slice p3_1 n3_1 c3_1, .int .i64 i3_2, .slice none 0 0, .int .i64 off]) := Lib.hid ((HD4.out.set 2 (.slice p4 n4 k4)).keep hf (by simp; omega))
      have HB5 : Hid (Blk w5 (w.heap.size) 54 #[.string ⟨#[]⟩, .slice none 0 0, .slice none 0 0, .slice none 0 0, .slice none 0 0, .string ⟨#[]⟩, .slice none 0 0, .int .i64 0, .slice none 0 0, .int .i64 0]) := Lib.hid (HB4.out.keep hT (by simp; omega))
      have HV2_5 := Lib.hid (row_own HV2_4.out (Nat.le_refl _) hT (by simp; omega))
      have HV3a_5 := Lib.hid (row_own HV3a_4.out (Nat.le_refl _) hT (by simp; omega))
      have HV3b_5 := Lib.hid (rep_own HV3b_4.out hT (by simp; omega))
      have HV4_5 := Lib.hid (row_own HV4.out (Nat.le_refl _) hT (by simp; omega))
      have HI5 := Lib.hid hi
      have HF5 := Lib.hid (HF4.out.join hT (by simp))
      have hz5 := hf.size
      try simp at hz5
      have HV5 := Lib.hid hV5
      have hl5 : ts5.length ≤ ts4.length := (shr_block HSH.out).ok hq5.out
      clear hT hf hi hV5 hv
      have hlB : w.heap.size < w5.heap.size := by omega
      have hlD : w.heap.size + 1 < w5.heap.size := HD5.out.lt
      have d0 : w5.cell? ⟨w.heap.size + 1, 0, none⟩ = some (.string ⟨x1.toArray⟩) := HD5.out.cell 0
      have d1 : w5.cell? ⟨w.heap.size + 1, 1, none⟩ = some (.slice p2 n2 k2) := HD5.out.cell 1
      have d2 : w5.cell? ⟨w.heap.size + 1, 2, none⟩ = some (.slice p4 n4 k4) := HD5.out.cell 2
      have d3 : w5.cell? ⟨w.heap.size + 1, 3, none⟩ = some (.slice none 0 0) := HD5.out.cell 3
      have d4 : w5.cell? ⟨w.heap.size + 1, 4, none⟩ = some (.slice p3 n3 k3) := HD5.out.cell 4
      have d5 : w5.cell? ⟨w.heap.size + 1, 5, none⟩ = some (.string s3_0) := HD5.out.cell 5
      have d6 : w5.cell? ⟨w.heap.size + 1, 6, none⟩ = some (.slice p3_1 n3_1 c3_1) := HD5.out.cell 6
      have d7 : w5.cell? ⟨w.heap.size + 1, 7, none⟩ = some (.int .i64 i3_2) := HD5.out.cell 7
      have d8 : w5.cell? ⟨w.heap.size + 1, 8, none⟩ = some (.slice none 0 0) := HD5.out.cell 8
      have d9 : w5.cell? ⟨w.heap.size + 1, 9, none⟩ = some (.int .i64 off) := HD5.out.cell 9
      have f8 : w5.frozen? ⟨w.heap.size + 1, 8, none⟩ = false := HD5.out.frozen 8
      have b0 : w5.cell? ⟨w.heap.size, 0, none⟩ = some (.string ⟨#[]⟩) := HB5.out.cell 0
      have b1 : w5.cell? ⟨w.heap.size, 1, none⟩ = some (.slice none 0 0) := HB5.out.cell 1
      have b2 : w5.cell? ⟨w.heap.size, 2, none⟩ = some (.slice none 0 0) := HB5.out.cell 2
      have b3 : w5.cell? ⟨w.heap.size, 3, none⟩ = some (.slice none 0 0) := HB5.out.cell 3
      have b4 : w5.cell? ⟨w.heap.size, 4, none⟩ = some (.slice none 0 0) := HB5.out.cell 4
      have b5 : w5.cell? ⟨w.heap.size, 5, none⟩ = some (.string ⟨#[]⟩) := HB5.out.cell 5
      have b6 : w5.cell? ⟨w.heap.size, 6, none⟩ = some (.slice none 0 0) := HB5.out.cell 6
      have b7 : w5.cell? ⟨w.heap.size, 7, none⟩ = some (.int .i64 0) := HB5.out.cell 7
      have b8 : w5.cell? ⟨w.heap.size, 8, none⟩ = some (.slice none 0 0) := HB5.out.cell 8
      have b9 : w5.cell? ⟨w.heap.size, 9, none⟩ = some (.int .i64 0) := HB5.out.cell 9
      have g0 : w5.frozen? ⟨w.heap.size, 0, none⟩ = false := HB5.out.frozen 0
      have g1 : w5.frozen? ⟨w.heap.size, 1, none⟩ = false := HB5.out.frozen 1
      have g2 : w5.frozen? ⟨w.heap.size, 2, none⟩ = false := HB5.out.frozen 2
      have g3 : w5.frozen? ⟨w.heap.size, 3, none⟩ = false := HB5.out.frozen 3
      have g4 : w5.frozen? ⟨w.heap.size, 4, none⟩ = false := HB5.out.frozen 4
      have g5 : w5.frozen? ⟨w.heap.size, 5, none⟩ = false := HB5.out.frozen 5
      have g6 : w5.frozen? ⟨w.heap.size, 6, none⟩ = false := HB5.out.frozen 6
      have g7 : w5.frozen? ⟨w.heap.size, 7, none⟩ = false := HB5.out.frozen 7
      have g8 : w5.frozen? ⟨w.heap.size, 8, none⟩ = false := HB5.out.frozen 8
      have g9 : w5.frozen? ⟨w.heap.size, 9, none⟩ = false := HB5.out.frozen 9
      go_wp2_with fail
      refine bodyPost_ret (v := .agg #[.string ⟨x1.toArray⟩, .slice p2 n2 k2, .slice p4 n4 k4, .slice none 0 0, .slice p3 n3 k3, .string s3_0, .slice p3_1 n3_1 c3_1, .int .i64 i3_2, .slice p5 n5 k5, .int .i64 off]) (by simp [results, Tryz.results205, go_sem, hlB, hlD, d0, d1, d2, d3, d4, d5, d6, d7, d8, d9, f8, b0, b1, b2, b3, b4, b5, b6, b7, b8, b9, g0, g1, g2, g3, g4, g5, g6, g7, g8, g9]) rfl ?_
      clear hlB hlD d0 d1 d2 d3 d4 d5 d6 d7 d8 d9 f8 b0 b1 b2 b3 b4 b5 b6 b7 b8 b9 g0 g1 g2 g3 g4 g5 g6 g7 g8 g9
      exact RP.ok (a := .mk x1 x2 x4 [] x3.1 x3.2 x5 off) (by simp only [functionS, bind, Px.Rd.bind, offset_res, if_true, if_false, Bool.false_eq_true, hq1.out, hq2.out, hq3.out, hq4.out, hq5.out] <;> rfl) (HF5.out.join (X := [w.heap.size + 1, w.heap.size]) (by repeat' (first | (with_reducible first | exact Fr.refl _ _ | refine Fr.setCell ?_ (Or.inl ?_) _ | refine Fr.alloc ?_ _ | refine Fr.drewN ?_ _) | (simp; done))) (by simp)) (HI5.out.fr (X := [w.heap.size + 1, w.heap.size]) H.out (by repeat' (first | (with_reducible first | exact Fr.refl _ _ | refine Fr.setCell ?_ (Or.inl ?_) _ | refine Fr.alloc ?_ _ | refine Fr.drewN ?_ _) | (simp; done))) (by simp)) ⟨[.string ⟨x1.toArray⟩, .slice p2 n2 k2, .slice p4 n4 k4, .slice none 0 0, .slice p3 n3 k3, .string s3_0, .slice p3_1 n3_1 c3_1, .int .i64 i3_2, .slice p5 n5 k5, .int .i64 off], rfl, by rw [funcQ_mk]; exact rep_str.2 ⟨_, rfl, rep_sl.2 ⟨_, _, rfl, (row_own (b := w.heap.size) HV2_5.out (by first | omega | (simp; done) | (simp; omega)) (X := [w.heap.size + 1, w.heap.size]) (by repeat' (first | (with_reducible first | exact Fr.refl _ _ | refine Fr.setCell ?_ (Or.inl ?_) _ | refine Fr.alloc ?_ _ | refine Fr.drewN ?_ _) | (simp; done))) (by first | omega | (simp; done) | (simp; omega))), rep_sl.2 ⟨_, _, rfl, (row_own (b := w.heap.size) HV4_5.out (by first | omega | (simp; done) | (simp; omega)) (X := [w.heap.size + 1, w.heap.size]) (by repeat' (first | (with_reducible first | exact Fr.refl _ _ | refine Fr.setCell ?_ (Or.inl ?_) _ | refine Fr.alloc ?_ _ | refine Fr.drewN ?_ _) | (simp; done))) (by first | omega | (simp; done) | (simp; omega))), rep_sl.2 ⟨_, _, rfl, RowV.nil _ _ _ _, rep_sl.2 ⟨_, _, rfl, (row_own (b := w.heap.size) HV3a_5.out (by first | omega | (simp; done) | (simp; omega)) (X := [w.heap.size + 1, w.heap.size]) (by repeat' (first | (with_reducible first | exact Fr.refl _ _ | refine Fr.setCell ?_ (Or.inl ?_) _ | refine Fr.alloc ?_ _ | refine Fr.drewN ?_ _) | (simp; done))) (by first | omega | (simp; done) | (simp; omega))), Rep.app (cs := [.string s3_0, .slice p3_1 n3_1 c3_1, .int .i64 i3_2]) (rep_own (b := w.heap.size) HV3b_5.out (X := [w.heap.size + 1, w.heap.size]) (by repeat' (first | (with_reducible first | exact Fr.refl _ _ | refine Fr.setCell ?_ (Or.inl ?_) _ | refine Fr.alloc ?_ _ | refine Fr.drewN ?_ _) | (simp; done))) (by first | omega | (simp; done) | (simp; omega)) (by first | omega | (simp; done) | (simp; omega))) (rep_sl.2 ⟨_, _, rfl, (row_own (b := w.heap.size) HV5.out (by first | omega | (simp; done) | (simp; omega)) (X := [w.heap.size + 1, w.heap.size]) (by repeat' (first | (with_reducible first | exact Fr.refl _ _ | refine Fr.setCell ?_ (Or.inl ?_) _ | refine Fr.alloc ?_ _ | refine Fr.drewN ?_ _) | (simp; done))) (by first | omega | (simp; done) | (simp; omega))), rep_int.2 ⟨_, rfl, rep_nil.2 rfl⟩⟩)⟩⟩⟩⟩⟩⟩
     ·go_wp2_with fail
      exact ⟨rfl, RP.bad (by simp only [functionS, bind, Px.Rd.bind, offset_res, if_true, if_false, Bool.false_eq_true, hq1.out, hq2.out, hq3.out, hq4.out, hq5.out]) (HF4.out.join (X := [w.heap.size + 1]) (Fr.trans (by repeat' (first | (with_reducible first | exact Fr.refl _ _ | refine Fr.setCell ?_ (Or.inl ?_) _ | refine Fr.alloc ?_ _ | refine Fr.drewN ?_ _) | (simp; done))) hf.wide) (by simp)) hi⟩
    ·go_wp2_with fail
     exact ⟨rfl, RP.bad (by simp only [functionS, bind, Px.Rd.bind, offset_res, if_true, if_false, Bool.false_eq_true, hq1.out, hq2.out, hq3.out, hq4.out]) (HF3.out.join (X := [w.heap.size + 1]) (Fr.trans (by repeat' (first | (with_reducible first | exact Fr.refl _ _ | refine Fr.setCell ?_ (Or.inl ?_) _ | refine Fr.alloc ?_ _ | refine Fr.drewN ?_ _) | (simp; done))) hf.wide) (by simp)) hi⟩
   ·go_wp2_with fail
    exact ⟨rfl, RP.bad (by simp only [functionS, bind, Px.Rd.bind, offset_res, if_true, if_false, Bool.false_eq_true, hq1.out, hq2.out, hq3.out]) (HF2.out.join (Fr.trans (by repeat' (first | (with_reducible first | exact Fr.refl _ _ | refine Fr.setCell ?_ (Or.inl ?_) _ | refine Fr.alloc ?_ _ | refine Fr.drewN ?_ _) | (simp; done))) hf) (by simp)) hi⟩
  ·go_wp2_with fail
   exact ⟨rfl, RP.bad (by simp only [functionS, bind, Px.Rd.bind, offset_res, if_true, if_false, Bool.false_eq_true, hq1.out, hq2.out]) (HF1.out.join (X := [w.heap.size + 1]) (Fr.trans (by repeat' (first | (with_reducible first | exact Fr.refl _ _ | refine Fr.setCell ?_ (Or.inl ?_) _ | refine Fr.alloc ?_ _ | refine Fr.drewN ?_ _) | (simp; done))) hf.wide) (by simp)) hi⟩
 ·go_wp2_with fail
  exact ⟨rfl, RP.bad (by simp only [functionS, bind, Px.Rd.bind, offset_res, if_true, if_false, Bool.false_eq_true, hq1.out]) ((Fr.refl [c.R] w).join (X := [w.heap.size + 1]) (Fr.trans (by repeat' (first | (with_reducible first | exact Fr.refl _ _ | refine Fr.setCell ?_ (Or.inl ?_) _ | refine Fr.alloc ?_ _ | refine Fr.drewN ?_ _) | (simp; done))) hf.wide) (by simp)) hi⟩
end Go.Proofs.YtpdhiminpdmpiaaGreatDoor
