/-
 Walks of the readers of expressions.
-/
import Derived.Test.YtpdhiminpdmpiaaGreatDoorVGF3
set_option linter.unusedVariables false
set_option linter.unusedSimpArgs false
set_option linter.unusedSectionVars false
set_option linter.unusedVariables false
set_option linter.unusedSimpArgs false
set_option linter.unusedSectionVars false
namespace Go.Proofs.YtpdhiminpdmpiaaGreatDoor
open Go.RowKit Go.Lib
open Lx (Tk)
open Px (Txt TyE VarD DataD TraitD BoundD ImplD ArgD ExprD StmtD ArmD FuncD ModD)
theorem operation_at (c : Ctx) (ts : List Tk) (w : World) (h : Inv c ts w) (kv nv : Int) (kind k : Nat) (h1 : kv = kind) (h2 : nv = k) (hk : k ≤ 2) :
  Calls Tryz.prog 284 #[.pointer (some ⟨c.R, 0, none⟩), .int .i64 kv, .int .i64 nv] w (RP c w (okAgg exprQ) (Px.operation kind k ts)) := by
 subst h1; subst h2; exact operation_any c ts w h kind k hk
theorem strs_row {w : World} {b g : Nat} {l : List Txt} (hB : Blk w g 9 (l.map strV).toArray) (hb : b ≤ g) (hl : l ≠ []) (hm : l.length ≤ 1000) : okRow 9 1 strQ b l w (.slice (some ⟨g, 0, none⟩) l.length l.length) := by
 refine .inr ⟨g, l.length, (l.map strV).toArray, l.map strV, rfl, by simp [hl], hb, hB, Nat.le_refl _, Nat.le_trans hm (by unfold maxLen; decide), by simp, by rw [Nat.mul_one]; exact List.take_of_length_le (by simp), by simp, ?_⟩
 clear hB hl hm
 induction l with
 | nil => exact rep_nil.2 rfl
 | cons a l ih => exact rep_str.2 ⟨_, rfl, ih⟩
set_option maxRecDepth 100000 in
set_option maxHeartbeats 1600000 in
theorem reference_any (c : Ctx) (plain behind inside : Nat) (ts : List Tk) (w : World) (h : Inv c ts w) :
  Calls Tryz.prog 285 #[.pointer (some ⟨c.R, 0, none⟩), .int .i64 plain, .int .i64 behind, .int .i64 inside] w (RP c w (okAgg exprQ) (Px.reference plain behind inside ts)) := by
 have H := Lib.hid h
 have HR0 := H.out.lt.1
 clear h
 go_enter Tryz.func285, Tryz.ntmps285
 go_wp2_with fail
 refine (accept_any c ts [[42]] _ _ 1 (by exact H.out.fr (X := []) H.out (by repeat' (first | (with_reducible first | exact Fr.refl _ _ | refine Fr.setCell ?_ (Or.inl ?_) _ | refine Fr.alloc ?_ _ | refine Fr.drewN ?_ _) | (simp; done))) (by simp)) rfl (by exact Blk.new_at (by simp)) rfl (by decide)).mono ?_
 rintro e w1 hp
 rcases hp.accept with ⟨hq1, _, hf, hi, rfl⟩ | ⟨hq1, hf, hi, rfl⟩
 ·clear hp
  have hl1 := accept_pos hq1.out rfl
  have hT : Fr [c.R] w w1 := Fr.trans (by repeat' (first | (with_reducible first | exact Fr.refl _ _ | refine Fr.setCell ?_ (Or.inl ?_) _ | refine Fr.alloc ?_ _ | refine Fr.drewN ?_ _) | (simp; done))) hf.wide
  have HB1 : Hid (Blk w1 (w.heap.size) 69 #[.int .i64 0, .string ⟨#[]⟩, .string ⟨#[]⟩, .string ⟨#[]⟩, .slice none 0 0, .int .i64 0, .slice none 0 0, .int .i64 0]) := Lib.hid ((Blk.alloc (Blk.new w _ _) _).keep hf (by simp; omega))
  have HI1 := Lib.hid hi
  have HF1 := Lib.hid ((Fr.refl [c.R] w).join hT (by simp))
  have hz1 := hf.size
  try simp at hz1
  clear hT hf hi
  go_wp2_with fail
  refine (operation_at c ts.tail _ (by exact HI1.out.fr (X := []) H.out (by repeat' (first | (with_reducible first | exact Fr.refl _ _ | refine Fr.setCell ?_ (Or.inl ?_) _ | refine Fr.alloc ?_ _ | refine Fr.drewN ?_ _) | (simp; done))) (by simp)) _ _ behind 1 (by rfl) (by rfl) (by decide)).mono ?_
  rintro e w2 hp
  rcases hp.cases with ⟨x2, ts2, v2, hq2, hf, hi, rfl, hv⟩ | ⟨ts2, hq2, hf, hi, rfl⟩
  ·clear hp
   obtain ⟨cs, rfl, hrep⟩ := hv
   obtain ⟨y2_0, y2_1, y2_2, y2_3, y2_4, y2_5, y2_6, y2_7, rfl⟩ := cells_8 (hrep.len.trans (len_exprQ x2))
   obtain ⟨i2_0, rfl⟩ := hrep.kind 0 rfl (kind_exprQ x2 0 rfl)
   obtain ⟨s2_1, rfl⟩ := hrep.kind 1 rfl (kind_exprQ x2 1 rfl)
   obtain ⟨s2_2, rfl⟩ := hrep.kind 2 rfl (kind_exprQ x2 2 rfl)
   obtain ⟨s2_3, rfl⟩ := hrep.kind 3 rfl (kind_exprQ x2 3 rfl)
   obtain ⟨p2_4, n2_4, c2_4, rfl⟩ := hrep.kind 4 rfl (kind_exprQ x2 4 rfl)
   obtain ⟨i2_5, rfl⟩ := hrep.kind 5 rfl (kind_exprQ x2 5 rfl)
   obtain ⟨p2_6, n2_6, c2_6, rfl⟩ := hrep.kind 6 rfl (kind_exprQ x2 6 rfl)
   obtain ⟨i2_7, rfl⟩ := hrep.kind 7 rfl (kind_exprQ x2 7 rfl)
   have hV2 : Rep w2 (fun k => w.heap.size + 1 ≤ k) _ _ := hrep.mono (fun k hk _ => ⟨by (try simp at hk); omega, rfl⟩)
   have hT : Fr [c.R] w1 w2 := Fr.trans (by repeat' (first | (with_reducible first | exact Fr.refl _ _ | refine Fr.setCell ?_ (Or.inl ?_) _ | refine Fr.alloc ?_ _ | refine Fr.drewN ?_ _) | (simp; done))) hf.wide
   have HB2 : Hid (Blk w2 (w.heap.size) 69 #[.int .i64 0, .string ⟨#[]⟩, .string ⟨#[]⟩, .string ⟨#[]⟩, .slice none 0 0, .int .i64 0, .slice none 0 0, .int .i64 0]) := Lib.hid (HB1.out.keep hT (by simp; omega))
   have HI2 := Lib.hid hi
   have HF2 := Lib.hid (HF1.out.join hT (by simp))
   have hz2 := hf.size
   try simp at hz2
   have HV2 := Lib.hid hV2
   have hl2 : ts2.length ≤ ts.tail.length := (shr_operation _ _).ok hq2.out
   clear hT hf hi hV2 hrep
   have hlB : w.heap.size < w2.heap.size := by omega
   have b0 : w2.cell? ⟨w.heap.size, 0, none⟩ = some (.int .i64 0) := HB2.out.cell 0
   have b1 : w2.cell? ⟨w.heap.size, 1, none⟩ = some (.string ⟨#[]⟩) := HB2.out.cell 1
   have b2 : w2.cell? ⟨w.heap.size, 2, none⟩ = some (.string ⟨#[]⟩) := HB2.out.cell 2
   have b3 : w2.cell? ⟨w.heap.size, 3, none⟩ = some (.string ⟨#[]⟩) := HB2.out.cell 3
   have b4 : w2.cell? ⟨w.heap.size, 4, none⟩ = some (.slice none 0 0) := HB2.out.cell 4
   have b5 : w2.cell? ⟨w.heap.size, 5, none⟩ = some (.int .i64 0) := HB2.out.cell 5
   have b6 : w2.cell? ⟨w.heap.size, 6, none⟩ = some (.slice none 0 0) := HB2.out.cell 6
   have b7 : w2.cell? ⟨w.heap.size, 7, none⟩ = some (.int .i64 0) := HB2.out.cell 7
   have g0 : w2.frozen? ⟨w.heap.size, 0, none⟩ = false := HB2.out.frozen 0
   have g1 : w2.frozen? ⟨w.heap.size, 1, none⟩ = false := HB2.out.frozen 1
   have g2 : w2.frozen? ⟨w.heap.size, 2, none⟩ = false := HB2.out.frozen 2
   have g3 : w2.frozen? ⟨w.heap.size, 3, none⟩ = false := HB2.out.frozen 3
   have g4 : w2.frozen? ⟨w.heap.size, 4, none⟩ = false := HB2.out.frozen 4
   have g5 : w2.frozen? ⟨w.heap.size, 5, none⟩ = false := HB2.out.frozen 5
   have g6 : w2.frozen? ⟨w.heap.size, 6, none⟩ = false := HB2.out.frozen 6
   have g7 : w2.frozen? ⟨w.heap.size, 7, none⟩ = false := HB2.out.frozen 7
   go_wp2_with fail
   refine bodyPost_ret (v := .agg #[.int .i64 i2_0, .string s2_1, .string s2_2, .string s2_3, .slice p2_4 n2_4 c2_4, .int .i64 i2_5, .slice p2_6 n2_6 c2_6, .int .i64 i2_7]) (by simp [results, Tryz.results285, go_sem, hlB, b0, b1, b2, b3, b4, b5, b6, b7, g0, g1, g2, g3, g4, g5, g6, g7]) rfl ?_
   clear hlB b0 b1 b2 b3 b4 b5 b6 b7 g0 g1 g2 g3 g4 g5 g6 g7
   exact RP.ok (by simp only [Px.reference, bind, Px.Rd.bind, offset_res, if_true, if_false, Bool.false_eq_true, hq1.out, hq2.out] <;> rfl) (HF2.out.join (X := [w.heap.size]) (by repeat' (first | (with_reducible first | exact Fr.refl _ _ | refine Fr.setCell ?_ (Or.inl ?_) _ | refine Fr.alloc ?_ _ | refine Fr.drewN ?_ _) | (simp; done))) (by simp)) (HI2.out.fr (X := [w.heap.size]) H.out (by repeat' (first | (with_reducible first | exact Fr.refl _ _ | refine Fr.setCell ?_ (Or.inl ?_) _ | refine Fr.alloc ?_ _ | refine Fr.drewN ?_ _) | (simp; done))) (by simp)) ⟨[.int .i64 i2_0, .string s2_1, .string s2_2, .string s2_3, .slice p2_4 n2_4 c2_4, .int .i64 i2_5, .slice p2_6 n2_6 c2_6, .int .i64 i2_7], rfl, (rep_own (b := w.heap.size) HV2.out (X := [w.heap.size]) (by repeat' (first | (with_reducible first | exact Fr.refl _ _ | refine Fr.setCell ?_ (Or.inl ?_) _ | refine Fr.alloc ?_ _ | refine Fr.drewN ?_ _) | (simp; done))) (by first | omega | (simp; done) | (simp; omega)) (by first | omega | (simp; done) | (simp; omega)))⟩
  ·go_wp2_with fail
   exact ⟨rfl, RP.bad (by simp only [Px.reference, bind, Px.Rd.bind, offset_res, if_true, if_false, Bool.false_eq_true, hq1.out, hq2.out]) (HF1.out.join (X := []) (Fr.trans (by repeat' (first | (with_reducible first | exact Fr.refl _ _ | refine Fr.setCell ?_ (Or.inl ?_) _ | refine Fr.alloc ?_ _ | refine Fr.drewN ?_ _) | (simp; done))) hf.wide) (by simp)) hi⟩
 ·clear hp
  have hT : Fr [c.R] w w1 := Fr.trans (by repeat' (first | (with_reducible first | exact Fr.refl _ _ | refine Fr.setCell ?_ (Or.inl ?_) _ | refine Fr.alloc ?_ _ | refine Fr.drewN ?_ _) | (simp; done))) hf.wide
  have HB1 : Hid (Blk w1 (w.heap.size) 69 #[.int .i64 0, .string ⟨#[]⟩, .string ⟨#[]⟩, .string ⟨#[]⟩, .slice none 0 0, .int .i64 0, .slice none 0 0, .int .i64 0]) := Lib.hid ((Blk.alloc (Blk.new w _ _) _).keep hf (by simp; omega))
  have HI1 := Lib.hid hi
  have HF1 := Lib.hid ((Fr.refl [c.R] w).join hT (by simp))
  have hz1 := hf.size
  try simp at hz1
  clear hT hf hi
  go_wp2_with fail
  refine (accept_any c ts [[105, 110]] _ _ 1 (by exact HI1.out.fr (X := []) H.out (by repeat' (first | (with_reducible first | exact Fr.refl _ _ | refine Fr.setCell ?_ (Or.inl ?_) _ | refine Fr.alloc ?_ _ | refine Fr.drewN ?_ _) | (simp; done))) (by simp)) rfl (by exact Blk.new_at (by simp)) rfl (by decide)).mono ?_
  rintro e w3 hp
  rcases hp.accept with ⟨hq3, _, hf, hi, rfl⟩ | ⟨hq3, hf, hi, rfl⟩
  ·clear hp
   have hl3 := accept_pos hq3.out rfl
   have hT : Fr [c.R] w1 w3 := Fr.trans (by repeat' (first | (with_reducible first | exact Fr.refl _ _ | refine Fr.setCell ?_ (Or.inl ?_) _ | refine Fr.alloc ?_ _ | refine Fr.drewN ?_ _) | (simp; done))) hf.wide
   have HB3 : Hid (Blk w3 (w.heap.size) 69 #[.int .i64 0, .string ⟨#[]⟩, .string ⟨#[]⟩, .string ⟨#[]⟩, .slice none 0 0, .int .i64 0, .slice none 0 0, .int .i64 0]) := Lib.hid (HB1.out.keep hT (by simp; omega))
   have HI3 := Lib.hid hi
   have HF3 := Lib.hid (HF1.out.join hT (by simp))
   have hz3 := hf.size
   try simp at hz3
   clear hT hf hi
   go_wp2_with fail
   refine (operation_at c ts.tail _ (by exact HI3.out.fr (X := []) H.out (by repeat' (first | (with_reducible first | exact Fr.refl _ _ | refine Fr.setCell ?_ (Or.inl ?_) _ | refine Fr.alloc ?_ _ | refine Fr.drewN ?_ _) | (simp; done))) (by simp)) _ _ inside 1 (by rfl) (by rfl) (by decide)).mono ?_
   rintro e w4 hp
   rcases hp.cases with ⟨x4, ts4, v4, hq4, hf, hi, rfl, hv⟩ | ⟨ts4, hq4, hf, hi, rfl⟩
   ·clear hp
    obtain ⟨cs, rfl, hrep⟩ := hv
    obtain ⟨y4_0, y4_1, y4_2, y4_3, y4_4, y4_5, y4_6, y4_7, rfl⟩ := cells_8 (hrep.len.trans (len_exprQ x4))
    obtain ⟨i4_0, rfl⟩ := hrep.kind 0 rfl (kind_exprQ x4 0 rfl)
    obtain ⟨s4_1, rfl⟩ := hrep.kind 1 rfl (kind_exprQ x4 1 rfl)
    obtain ⟨s4_2, rfl⟩ := hrep.kind 2 rfl (kind_exprQ x4 2 rfl)
    obtain ⟨s4_3, rfl⟩ := hrep.kind 3 rfl (kind_exprQ x4 3 rfl)
    obtain ⟨p4_4, n4_4, c4_4, rfl⟩ := hrep.kind 4 rfl (kind_exprQ x4 4 rfl)
    obtain ⟨i4_5, rfl⟩ := hrep.kind 5 rfl (kind_exprQ x4 5 rfl)
    obtain ⟨p4_6, n4_6, c4_6, rfl⟩ := hrep.kind 6 rfl (kind_exprQ x4 6 rfl)
    obtain ⟨i4_7, rfl⟩ := hrep.kind 7 rfl (kind_exprQ x4 7 rfl)
    have hV4 : Rep w4 (fun k => w.heap.size + 1 ≤ k) _ _ := hrep.mono (fun k hk _ => ⟨by (try simp at hk); omega, rfl⟩)
    have hT : Fr [c.R] w3 w4 := Fr.trans (by repeat' (first | (with_reducible first | exact Fr.refl _ _ | refine Fr.setCell ?_ (Or.inl ?_) _ | refine Fr.alloc ?_ _ | refine Fr.drewN ?_ _) | (simp; done))) hf.wide
    have HB4 : Hid (Blk w4 (w.heap.size) 69 #[.int .i64 0, .string ⟨#[]⟩, .string ⟨#[]⟩, .string ⟨#[]⟩, .slice none 0 0, .int .i64 0, .slice none 0 0, .int .i64 0]) := Lib.hid (HB3.out.keep hT (by simp; omega))
    have HI4 := Lib.hid hi
    have HF4 := Lib.hid (HF3.out.join hT (by simp))
    have hz4 := hf.size
    try simp at hz4
    have HV4 := Lib.hid hV4
    have hl4 : ts4.length ≤ ts.tail.length := (shr_operation _ _).ok hq4.out
    clear hT hf hi hV4 hrep
    have hlB : w.heap.size < w4.heap.size := by omega
    have b0 : w4.cell? ⟨w.heap.size, 0, none⟩ = some (.int .i64 0) := HB4.out.cell 0
    have b1 : w4.cell? ⟨w.heap.size, 1, none⟩ = some (.string ⟨#[]⟩) := HB4.out.cell 1
    have b2 : w4.cell? ⟨w.heap.size, 2, none⟩ = some (.string ⟨#[]⟩) := HB4.out.cell 2
    have b3 : w4.cell? ⟨w.heap.size, 3, none⟩ = some (.string ⟨#[]⟩) := HB4.out.cell 3
    have b4 : w4.cell? ⟨w.heap.size, 4, none⟩ = some (.slice none 0 0) := HB4.out.cell 4
    have b5 : w4.cell? ⟨w.heap.size, 5, none⟩ = some (.int .i64 0) := HB4.out.cell 5
    have b6 : w4.cell? ⟨w.heap.size, 6, none⟩ = some (.slice none 0 0) := HB4.out.cell 6
    have b7 : w4.cell? ⟨w.heap.size, 7, none⟩ = some (.int .i64 0) := HB4.out.cell 7
    have g0 : w4.frozen? ⟨w.heap.size, 0, none⟩ = false := HB4.out.frozen 0
    have g1 : w4.frozen? ⟨w.heap.size, 1, none⟩ = false := HB4.out.frozen 1
    have g2 : w4.frozen? ⟨w.heap.size, 2, none⟩ = false := HB4.out.frozen 2
    have g3 : w4.frozen? ⟨w.heap.size, 3, none⟩ = false := HB4.out.frozen 3
    have g4 : w4.frozen? ⟨w.heap.size, 4, none⟩ = false := HB4.out.frozen 4
    have g5 : w4.frozen? ⟨w.heap.size, 5, none⟩ = false := HB4.out.frozen 5
    have g6 : w4.frozen? ⟨w.heap.size, 6, none⟩ = false := HB4.out.frozen 6
    have g7 : w4.frozen? ⟨w.heap.size, 7, none⟩ = false := HB4.out.frozen 7
    go_wp2_with fail
    refine bodyPost_ret (v := .agg #[.int .i64 i4_0, .string s4_1, .string s4_2, .string s4_3, .slice p4_4 n4_4 c4_4, .int .i64 i4_5, .slice p4_6 n4_6 c4_6, .int .i64 i4_7]) (by simp [results, Tryz.results285, go_sem, hlB, b0, b1, b2, b3, b4, b5, b6, b7, g0, g1, g2, g3, g4, g5, g6, g7]) rfl ?_
    clear hlB b0 b1 b2 b3 b4 b5 b6 b7 g0 g1 g2 g3 g4 g5 g6 g7
    exact RP.ok (by simp only [Px.reference, bind, Px.Rd.bind, offset_res, if_true, if_false, Bool.false_eq_true, hq1.out, hq3.out, hq4.out] <;> rfl) (HF4.out.join (X := [w.heap.size]) (by repeat' (first | (with_reducible first | exact Fr.refl _ _ | refine Fr.setCell ?_ (Or.inl ?_) _ | refine Fr.alloc ?_ _ | refine Fr.drewN ?_ _) | (simp; done))) (by simp)) (HI4.out.fr (X := [w.heap.size]) H.out (by repeat' (first | (with_reducible first | exact Fr.refl _ _ | refine Fr.setCell ?_ (Or.inl ?_) _ | refine Fr.alloc ?_ _ | refine Fr.drewN ?_ _) | (simp; done))) (by simp)) ⟨[.int .i64 i4_0, .string s4_1, .string s4_2, .string s4_3, .slice p4_4 n4_4 c4_4, .int .i64 i4_5, .slice p4_6 n4_6 c4_6, .int .i64 i4_7], rfl, (rep_own (b := w.heap.size) HV4.out (X := [w.heap.size]) (by repeat' (first | (with_reducible first | exact Fr.refl _ _ | refine Fr.setCell ?_ (Or.inl ?_) _ | refine Fr.alloc ?_ _ | refine Fr.drewN ?_ _) | (simp; done))) (by first | omega | (simp; done) | (simp; omega)) (by first | omega | (simp; done) | (simp; omega)))⟩
   ·go_wp2_with fail
    exact ⟨rfl, RP.bad (by simp only [Px.reference, bind, Px.Rd.bind, offset_res, if_true, if_false, Bool.false_eq_true, hq1.out, hq3.out, hq4.out]) (HF3.out.join (X := []) (Fr.trans (by repeat' (first | (with_reducible first | exact Fr.refl _ _ | refine Fr.setCell ?_ (Or.inl ?_) _ | refine Fr.alloc ?_ _ | refine Fr.drewN ?_ _) | (simp; done))) hf.wide) (by simp)) hi⟩
  ·clear hp
   have hT : Fr [c.R] w1 w3 := Fr.trans (by repeat' (first | (with_reducible first | exact Fr.refl _ _ | refine Fr.setCell ?_ (Or.inl ?_) _ | refine Fr.alloc ?_ _ | refine Fr.drewN ?_ _) | (simp; done))) hf.wide
   have HB3 : Hid (Blk w3 (w.heap.size) 69 #[.int .i64 0, .string ⟨#[]⟩, .string ⟨#[]⟩, .string ⟨#[]⟩, .slice none 0 0, .int .i64 0, .slice none 0 0, .int .i64 0]) := Lib.hid (HB1.out.keep hT (by simp; omega))
   have HI3 := Lib.hid hi
   have HF3 := Lib.hid (HF1.out.join hT (by simp))
   have hz3 := hf.size
   try simp at hz3
   clear hT hf hi
   go_wp2_with fail
   refine (operation_at c ts _ (by exact HI3.out.fr (X := []) H.out (by repeat' (first | (with_reducible first | exact Fr.refl _ _ | refine Fr.setCell ?_ (Or.inl ?_) _ | refine Fr.alloc ?_ _ | refine Fr.drewN ?_ _) | (simp; done))) (by simp)) _ _ plain 1 (by rfl) (by rfl) (by decide)).mono ?_
   rintro e w5 hp
   rcases hp.cases with ⟨x5, ts5, v5, hq5, hf, hi, rfl, hv⟩ | ⟨ts5, hq5, hf, hi, rfl⟩
   ·clear hp
    obtain ⟨cs, rfl, hrep⟩ := hv
    obtain ⟨y5_0, y5_1, y5_2, y5_3, y5_4, y5_5, y5_6, y5_7, rfl⟩ := cells_8 (hrep.len.trans (len_exprQ x5))
    obtain ⟨i5_0, rfl⟩ := hrep.kind 0 rfl (kind_exprQ x5 0 rfl)
    obtain ⟨s5_1, rfl⟩ := hrep.kind 1 rfl (kind_exprQ x5 1 rfl)
    obtain ⟨s5_2, rfl⟩ := hrep.kind 2 rfl (kind_exprQ x5 2 rfl)
    obtain ⟨s5_3, rfl⟩ := hrep.kind 3 rfl (kind_exprQ x5 3 rfl)
    obtain ⟨p5_4, n5_4, c5_4, rfl⟩ := hrep.kind 4 rfl (kind_exprQ x5 4 rfl)
    obtain ⟨i5_5, rfl⟩ := hrep.kind 5 rfl (kind_exprQ x5 5 rfl)
    obtain ⟨p5_6, n5_6, c5_6, rfl⟩ := hrep.kind 6 rfl (kind_exprQ x5 6 rfl)
    obtain ⟨i5_7, rfl⟩ := hrep.kind 7 rfl (kind_exprQ x5 7 rfl)
    have hV5 : Rep w5 (fun k => w.heap.size + 1 ≤ k) _ _ := hrep.mono (fun k hk _ => ⟨by (try simp at hk); omega, rfl⟩)
    have hT : Fr [c.R] w3 w5 := Fr.trans (by repeat' (first | (with_reducible first | exact Fr.refl _ _ | refine Fr.setCell ?_ (Or.inl ?_) _ | refine Fr.alloc ?_ _ | refine Fr.drewN ?_ _) | (simp; done))) hf.wide
    have HB5 : Hid (Blk w5 (w.heap.size) 69 #[.int .i64 0, .string ⟨#[]⟩, .string ⟨#[]⟩, .string ⟨#[]⟩, .slice none 0 0, .int .i64 0, .slice none 0 0, .int .i64 0]) := Lib.hid (HB3.out.keep hT (by simp; omega))
    have HI5 := Lib.hid hi
    have HF5 := Lib.hid (HF3.out.join hT (by simp))
    have hz5 := hf.size
    try simp at hz5
    have HV5 := Lib.hid hV5
    have hl5 : ts5.length ≤ ts.length := (shr_operation _ _).ok hq5.out
    clear hT hf hi hV5 hrep
    have hlB : w.heap.size < w5.heap.size := by omega
    have b0 : w5.cell? ⟨w.heap.size, 0, none⟩ = some (.int .i64 0) := HB5.out.cell 0
    have b1 : w5.cell? ⟨w.heap.size, 1, none⟩ = some (.string ⟨#[]⟩) := HB5.out.cell 1
    have b2 : w5.cell? ⟨w.heap.size, 2, none⟩ = some (.string ⟨#[]⟩) := HB5.out.cell 2
    have b3 : w5.cell? ⟨w.heap.size, 3, none⟩ = some (.string ⟨#[]⟩) := HB5.out.cell 3
    have b4 : w5.cell? ⟨w.heap.size, 4, none⟩ = some (.slice none 0 0) := HB5.out.cell 4
    have b5 : w5.cell? ⟨w.heap.size, 5, none⟩ = some (.int .i64 0) := HB5.out.cell 5
    have b6 : w5.cell? ⟨w.heap.size, 6, none⟩ = some (.slice none 0 0) := HB5.out.cell 6
    have b7 : w5.cell? ⟨w.heap.size, 7, none⟩ = some (.int .i64 0) := HB5.out.cell 7
    have g0 : w5.frozen? ⟨w.heap.size, 0, none⟩ = false := HB5.out.frozen 0
    have g1 : w5.frozen? ⟨w.heap.size, 1, none⟩ = false := HB5.out.frozen 1
    have g2 : w5.frozen? ⟨w.heap.size, 2, none⟩ = false := HB5.out.frozen 2
    have g3 : w5.frozen? ⟨w.heap.size, 3, none⟩ = false := HB5.out.frozen 3
    have g4 : w5.frozen? ⟨w.heap.size, 4, none⟩ = false := HB5.out.frozen 4
    have g5 : w5.frozen? ⟨w.heap.size, 5, none⟩ = false := HB5.out.frozen 5
    have g6 : w5.frozen? ⟨w.heap.size, 6, none⟩ = false := HB5.out.frozen 6
    have g7 : w5.frozen? ⟨w.heap.size, 7, none⟩ = false := HB5.out.frozen 7
    go_wp2_with fail
    refine bodyPost_ret (v := .agg #[.int .i64 i5_0, .string s5_1, .string s5_2, .string s5_3, .slice p5_4 n5_4 c5_4, .int .i64 i5_5, .slice p5_6 n5_6 c5_6, .int .i64 i5_7]) (by simp [results, Tryz.results285, go_sem, hlB, b0, b1, b2, b3, b4, b5, b6, b7, g0, g1, g2, g3, g4, g5, g6, g7]) rfl ?_
    clear hlB b0 b1 b2 b3 b4 b5 b6 b7 g0 g1 g2 g3 g4 g5 g6 g7
    exact RP.ok (by simp only [Px.reference, bind, Px.Rd.bind, offset_res, if_true, if_false, Bool.false_eq_true, hq1.out, hq3.out, hq5.out] <;> rfl) (HF5.out.join (X := [w.heap.size]) (by repeat' (first | (with_reducible first | exact Fr.refl _ _ | refine Fr.setCell ?_ (Or.inl ?_) _ | refine Fr.alloc ?_ _ | refine Fr.drewN ?_ _) | (simp; done))) (by simp)) (HI5.out.fr (X := [w.heap.size]) H.out (by repeat' (first | (with_reducible first | exact Fr.refl _ _ | refine Fr.setCell ?_ (Or.inl ?_) _ | refine Fr.alloc ?_ _ | refine Fr.drewN ?_ _) | (simp; done))) (by simp)) ⟨[.int .i64 i5_0, .string s5_1, .string s5_2, .string s5_3, .slice p5_4 n5_4 c5_4, .int .i64 i5_5, .slice p5_6 n5_6 c5_6, .int .i64 i5_7], rfl, (rep_own (b := w.heap.size) HV5.out (X := [w.heap.size]) (by repeat' (first | (with_reducible first | exact Fr.refl _ _ | refine Fr.setCell ?_ (Or.inl ?_) _ | refine Fr.alloc ?_ _ | refine Fr.drewN ?_ _) | (simp; done))) (by first | omega | (simp; done) | (simp; omega)) (by first | omega | (simp; done) | (simp; omega)))⟩
   ·go_wp2_with fail
    exact ⟨rfl, RP.bad (by simp only [Px.reference, bind, Px.Rd.bind, offset_res, if_true, if_false, Bool.false_eq_true, hq1.out, hq3.out, hq5.out]) (HF3.out.join (X := []) (Fr.trans (by repeat' (first | (with_reducible first | exact Fr.refl _ _ | refine Fr.setCell ?_ (Or.inl ?_) _ | refine Fr.alloc ?_ _ | refine Fr.drewN ?_ _) | (simp; done))) hf.wide) (by simp)) hi⟩
set_option maxRecDepth 100000 in
set_option maxHeartbeats 1600000 in
theorem newValue_any (c : Ctx) (ts : List Tk) (w : World) (h : Inv c ts w) :
  Calls Tryz.prog 283 #[.pointer (some ⟨c.R, 0, none⟩)] w (RP c w (okAgg exprQ) (Px.newValue ts)) := by
 have hmf := make_func
 have H := Lib.hid h
 have HR0 := H.out.lt.1
 clear h
 go_enter Tryz.func283, Tryz.ntmps283
 go_wp2_with fail
 refine (name_any c ts _ (by exact H.out.fr (X := [w.heap.size + 1]) H.out (by repeat' (first | (with_reducible first | exact Fr.refl _ _ | refine Fr.setCell ?_ (Or.inl ?_) _ | refine Fr.alloc ?_ _ | refine Fr.drewN ?_ _) | (simp; done))) (by simp))).mono ?_
 rintro e w1 hp
 rcases hp.cases with ⟨x1, ts1, v1, hq1, hf, hi, rfl, hv⟩ | ⟨ts1, hq1, hf, hi, rfl⟩
 ·clear hp
  obtain rfl := hv
  have hT : Fr [c.R, w.heap.size + 1] w w1 := Fr.trans (by repeat' (first | (with_reducible first | exact Fr.refl _ _ | refine Fr.setCell ?_ (Or.inl ?_) _ | refine Fr.alloc ?_ _ | refine Fr.drewN ?_ _) | (simp; done))) hf.wide
  have HD1 : Hid (Blk w1 (w.heap.size + 1) 69 #[.int .i64 4, .string ⟨#[]⟩, .string ⟨#[]⟩, .string ⟨#[]⟩, .slice none 0 0, .int .i64 0, .slice none 0 0, .int .i64 0]) := Lib.hid ((Blk.new_at (by simp)).keep hf (by simp; omega))
  have HB1 : Hid (Blk w1 (w.heap.size) 69 #[.int .i64 0, .string ⟨#[]⟩, .string ⟨#[]⟩, .string ⟨#[]⟩, .slice none 0 0, .int .i64 0, .slice none 0 0, .int .i64 0]) := Lib.hid ((Blk.alloc (Blk.new w _ _) _).keep hf (by simp; omega))
  have HI1 := Lib.hid hi
  have HF1 := Lib.hid ((Fr.refl [c.R] w).join hT (by simp))
  have hz1 := hf.size
  try simp at hz1
  have hl1 : ts1.length < ts.length := Strict.name _ _ _ hq1.out
  clear hT hf hi
  have hlD : w.heap.size + 1 < w1.heap.size := HD1.out.lt
  have d2 : w1.cell? ⟨w.heap.size + 1, 2, none⟩ = some (.string ⟨#[]⟩) := HD1.out.cell 2
  have f2 : w1.frozen? ⟨w.heap.size + 1, 2, none⟩ = false := HD1.out.frozen 2
  go_wp2_with fail
  clear hlD d2 f2
  refine (expect_any c ts1 [[46]] _ _ 1 (by exact HI1.out.fr (X := [w.heap.size + 1]) H.out (by repeat' (first | (with_reducible first | exact Fr.refl _ _ | refine Fr.setCell ?_ (Or.inl ?_) _ | refine Fr.alloc ?_ _ | refine Fr.drewN ?_ _) | (simp; done))) (by simp)) rfl (by exact Blk.new_at (by simp)) rfl (by decide)).mono ?_
  rintro e w2 hp
  rcases hp.cases with ⟨x2, ts2, v2, hq2, hf, hi, rfl, hv⟩ | ⟨ts2, hq2, hf, hi, rfl⟩
  ·clear hp
   obtain rfl := hv
   have hT : Fr [c.R, w.heap.size + 1] w1 w2 := Fr.trans (by repeat' (first | (with_reducible first | exact Fr.refl _ _ | refine Fr.setCell ?_ (Or.inl ?_) _ | refine Fr.alloc ?_ _ | refine Fr.drewN ?_ _) | (simp; done))) hf.wide
   have HD2 : Hid (Blk w2 (w.heap.size + 1) 69 #[.int .i64 4, .string ⟨#[]⟩, .string ⟨x1.toArray⟩, .string ⟨#[]⟩, .slice none 0 0, .int .i64 0, .slice none 0 0, .int .i64 0]) := Lib.hid ((Blk.alloc (HD1.out.set 2 (.string ⟨x1.toArray⟩)) _).keep hf (by simp; omega))
   have HB2 : Hid (Blk w2 (w.heap.size) 69 #[.int .i64 0, .string ⟨#[]⟩, .string ⟨#[]⟩, .string ⟨#[]⟩, .slice none 0 0, .int .i64 0, .slice none 0 0, .int .i64 0]) := Lib.hid (HB1.out.keep hT (by simp; omega))
   have HI2 := Lib.hid hi
   have HF2 := Lib.hid (HF1.out.join hT (by simp))
   have hz2 := hf.size
   try simp at hz2
   have hl2 : ts2.length ≤ ts1.length := (Shr.expect _).ok hq2.out
   clear hT hf hi
   have hlD : w.heap.size + 1 < w2.heap.size := HD2.out.lt
   go_wp2_with fail
   clear hlD
   refine (name_any c ts2 _ (by exact HI2.out.fr (X := [w.heap.size + 1]) H.out (by repeat' (first | (with_reducible first | exact Fr.refl _ _ | refine Fr.setCell ?_ (Or.inl ?_) _ | refine Fr.alloc ?_ _ | refine Fr.drewN ?_ _) | (simp; done))) (by simp))).mono ?_
   rintro e w3 hp
   rcases hp.cases with ⟨x3, ts3, v3, hq3, hf, hi, rfl, hv⟩ | ⟨ts3, hq3, hf, hi, rfl⟩
   ·clear hp
    obtain rfl := hv
    have hT : Fr [c.R, w.heap.size + 1] w2 w3 := Fr.trans (by repeat' (first | (with_reducible first | exact Fr.refl _ _ | refine Fr.setCell ?_ (Or.inl ?_) _ | refine Fr.alloc ?_ _ | refine Fr.drewN ?_ _) | (simp; done))) hf.wide
    have HD3 : Hid (Blk w3 (w.heap.size + 1) 69 #[.int .i64 4, .string ⟨#[]⟩, .string ⟨x1.toArray⟩, .string ⟨#[]⟩, .slice none 0 0, .int .i64 0, .slice none 0 0, .int .i64 0]) := Lib.hid (HD2.out.keep hf (by simp; omega))
    have HB3 : Hid (Blk w3 (w.heap.size) 69 #[.int .i64 0, .string ⟨#[]⟩, .string ⟨#[]⟩, .string ⟨#[]⟩, .slice none 0 0, .int .i64 0, .slice none 0 0, .int .i64 0]) := Lib.hid (HB2.out.keep hT (by simp; omega))
    have HI3 := Lib.hid hi
    have HF3 := Lib.hid (HF2.out.join hT (by simp))
    have hz3 := hf.size
    try simp at hz3
    have hl3 : ts3.length < ts2.length := Strict.name _ _ _ hq3.out
    clear hT hf hi
    have hlD : w.heap.size + 1 < w3.heap.size := HD3.out.lt
    have d3 : w3.cell? ⟨w.heap.size + 1, 3, none⟩ = some (.string ⟨#[]⟩) := HD3.out.cell 3
    have f3 : w3.frozen? ⟨w.heap.size + 1, 3, none⟩ = false := HD3.out.frozen 3
    go_wp2_with fail
    clear hlD d3 f3
    refine (opt_str c _ (ts3.length + 1) _ enters_name (reads_name c _) Shr.name [40] [41] (by decide) (by decide) ts3 _ (by exact HI3.out.fr (X := [w.heap.size + 1]) H.out (by repeat' (first | (with_reducible first | exact Fr.refl _ _ | refine Fr.setCell ?_ (Or.inl ?_) _ | refine Fr.alloc ?_ _ | refine Fr.drewN ?_ _) | (simp; done))) (by simp)) (by omega)).mono ?_
    rintro e w4 hp
    rcases hp.cases with ⟨x4, ts4, v4, hq4, hf, hi, rfl, hv⟩ | ⟨ts4, hq4, hf, hi, rfl⟩
    ·clear hp
     obtain ⟨p4, n4, k4, rfl⟩ := row_shp hv
     have hV4 := row_own (b := w.heap.size + 2) hv (by first | omega | (simp; done) | (simp; omega)) (Fr.refl [] _) (by simp)
     have hT : Fr [c.R, w.heap.size + 1] w3 w4 := Fr.trans (by repeat' (first | (with_reducible first | exact Fr.refl _ _ | refine Fr.setCell ?_ (Or.inl ?_) _ | refine Fr.alloc ?_ _ | refine Fr.drewN ?_ _) | (simp; done))) hf.wide
     have HD4 : Hid (Blk w4 (w.heap.size + 1) 69 #[.int .i64 4, .string ⟨#[]⟩, .string ⟨x1.toArray⟩, .string ⟨x3.toArray⟩, .slice none 0 0, .int .i64 0, .slice none 0 0, .int .i64 0]) := Lib.hid ((HD3.out.set 3 (.string ⟨x3.toArray⟩)).keep hf (by simp; omega))
     have HB4 : Hid (Blk w4 (w.heap.size) 69 #[.int .i64 0, .string ⟨#[]⟩, .string ⟨#[]⟩, .string ⟨#[]⟩, .slice none 0 0, .int .i64 0, .slice none 0 0, .int .i64 0]) := Lib.hid (HB3.out.keep hT (by simp; omega))
     have HI4 := Lib.hid hi
     have HF4 := Lib.hid (HF3.out.join hT (by simp))
     have hz4 := hf.size
     try simp at hz4
     have HV4 := Lib.hid hV4
     have hl4 : ts4.length ≤ ts3.length := (Shr.opt Shr.name _ _).ok hq4.out
     clear hT hf hi hV4 hv
     have hlB : w.heap.size < w4.heap.size := by omega
     have hlD : w.heap.size + 1 < w4.heap.size := HD4.out.lt
     have d0 : w4.cell? ⟨w.heap.size + 1, 0, none⟩ = some (.int .i64 4) := HD4.out.cell 0
     have d1 : w4.cell? ⟨w.heap.size + 1, 1, none⟩ = some (.string ⟨#[]⟩) := HD4.out.cell 1
     have d2 : w4.cell? ⟨w.heap.size + 1, 2, none⟩ = some (.string ⟨x1.toArray⟩) := HD4.out.cell 2
     have d3 : w4.cell? ⟨w.heap.size + 1, 3, none⟩ = some (.string ⟨x3.toArray⟩) := HD4.out.cell 3
     have d4 : w4.cell? ⟨w.heap.size + 1, 4, none⟩ = some (.slice none 0 0) := HD4.out.cell 4
     have d5 : w4.cell? ⟨w.heap.size + 1, 5, none⟩ = some (.int .i64 0) := HD4.out.cell 5
     have d6 : w4.cell? ⟨w.heap.size + 1, 6, none⟩ = some (.slice none 0 0) := HD4.out.cell 6
     have d7 : w4.cell? ⟨w.heap.size + 1, 7, none⟩ = some (.int .i64 0) := HD4.out.cell 7
     have f4 : w4.frozen? ⟨w.heap.size + 1, 4, none⟩ = false := HD4.out.frozen 4
     have b0 : w4.cell? ⟨w.heap.size, 0, none⟩ = some (.int .i64 0) := HB4.out.cell 0
     have b1 : w4.cell? ⟨w.heap.size, 1, none⟩ = some (.string ⟨#[]⟩) := HB4.out.cell 1
     have b2 : w4.cell? ⟨w.heap.size, 2, none⟩ = some (.string ⟨#[]⟩) := HB4.out.cell 2
     have b3 : w4.cell? ⟨w.heap.size, 3, none⟩ = some (.string ⟨#[]⟩) := HB4.out.cell 3
     have b4 : w4.cell? ⟨w.heap.size, 4, none⟩ = some (.slice none 0 0) := HB4.out.cell 4
     have b5 : w4.cell? ⟨w.heap.size, 5, none⟩ = some (.int .i64 0) := HB4.out.cell 5
     have b6 : w4.cell? ⟨w.heap.size, 6, none⟩ = some (.slice none 0 0) := HB4.out.cell 6
     have b7 : w4.cell? ⟨w.heap.size, 7, none⟩ = some (.int .i64 0) := HB4.out.cell 7
     have g0 : w4.frozen? ⟨w.heap.size, 0, none⟩ = false := HB4.out.frozen 0
     have g1 : w4.frozen? ⟨w.heap.size, 1, none⟩ = false := HB4.out.frozen 1
     have g2 : w4.frozen? ⟨w.heap.size, 2, none⟩ = false := HB4.out.frozen 2
     have g3 : w4.frozen? ⟨w.heap.size, 3, none⟩ = false := HB4.out.frozen 3
     have g4 : w4.frozen? ⟨w.heap.size, 4, none⟩ = false := HB4.out.frozen 4
     have g5 : w4.frozen? ⟨w.heap.size, 5, none⟩ = false := HB4.out.frozen 5
     have g6 : w4.frozen? ⟨w.heap.size, 6, none⟩ = false := HB4.out.frozen 6
     have g7 : w4.frozen? ⟨w.heap.size, 7, none⟩ = false := HB4.out.frozen 7
     go_wp2_with fail
     refine bodyPost_ret (v := .agg #[.int .i64 4, .string ⟨#[]⟩, .string ⟨x1.toArray⟩, .string ⟨x3.toArray⟩, .slice p4 n4 k4, .int .i64 0, .slice none 0 0, .int .i64 0]) (by simp [results, Tryz.results283, go_sem, hlB, hlD, d0, d1, d2, d3, d4, d5, d6, d7, f4, b0, b1, b2, b3, b4, b5, b6, b7, g0, g1, g2, g3, g4, g5, g6, g7]) rfl ?_
     clear hlB hlD d0 d1 d2 d3 d4 d5 d6 d7 f4 b0 b1 b2 b3 b4 b5 b6 b7 g0 g1 g2 g3 g4 g5 g6 g7
     exact RP.ok (by simp only [Px.newValue, bind, Px.Rd.bind, offset_res, if_true, if_false, Bool.false_eq_true, hq1.out, hq2.out, hq3.out, hq4.out] <;> rfl) (HF4.out.join (X := [w.heap.size + 1, w.heap.size]) (by repeat' (first | (with_reducible first | exact Fr.refl _ _ | refine Fr.setCell ?_ (Or.inl ?_) _ | refine Fr.alloc ?_ _ | refine Fr.drewN ?_ _) | (simp; done))) (by simp)) (HI4.out.fr (X := [w.heap.size + 1, w.heap.size]) H.out (by repeat' (first | (with_reducible first | exact Fr.refl _ _ | refine Fr.setCell ?_ (Or.inl ?_) _ | refine Fr.alloc ?_ _ | refine Fr.drewN ?_ _) | (simp; done))) (by simp)) ⟨[.int .i64 4, .string ⟨#[]⟩, .string ⟨x1.toArray⟩, .string ⟨x3.toArray⟩, .slice p4 n4 k4, .int .i64 0, .slice none 0 0, .int .i64 0], rfl, rep_int.2 ⟨_, rfl, rep_str.2 ⟨_, rfl, rep_str.2 ⟨_, rfl, rep_str.2 ⟨_, rfl, rep_sl.2 ⟨_, _, rfl, (row_own (b := w.heap.size) HV4.out (by first | omega | (simp; done) | (simp; omega)) (X := [w.heap.size + 1, w.heap.size]) (by repeat' (first | (with_reducible first | exact Fr.refl _ _ | refine Fr.setCell ?_ (Or.inl ?_) _ | refine Fr.alloc ?_ _ | refine Fr.drewN ?_ _) | (simp; done))) (by first | omega | (simp; done) | (simp; omega))), rep_int.2 ⟨_, rfl, rep_sl.2 ⟨_, _, rfl, RowV.nil _ _ _ _, rep_int.2 ⟨_, rfl, rep_nil.2 rfl⟩⟩⟩⟩⟩⟩⟩⟩⟩
    ·go_wp2_with fail
     exact ⟨rfl, RP.bad (by simp only [Px.newValue, bind, Px.Rd.bind, offset_res, if_true, if_false, Bool.false_eq_true, hq1.out, hq2.out, hq3.out, hq4.out]) (HF3.out.join (X := [w.heap.size + 1]) (Fr.trans (by repeat' (first | (with_reducible first | exact Fr.refl _ _ | refine Fr.setCell ?_ (Or.inl ?_) _ | refine Fr.alloc ?_ _ | refine Fr.drewN ?_ _) | (simp; done))) hf.wide) (by simp)) hi⟩
   ·go_wp2_with fail
    exact ⟨rfl, RP.bad (by simp only [Px.newValue, bind, Px.Rd.bind, offset_res, if_true, if_false, Bool.false_eq_true, hq1.out, hq2.out, hq3.out]) (HF2.out.join (X := [w.heap.size + 1]) (Fr.trans (by repeat' (first | (with_reducible first | exact Fr.refl _ _ | refine Fr.setCell ?_ (Or.inl ?_) _ | refine Fr.alloc ?_ _ | refine Fr.drewN ?_ _) | (simp; done))) hf.wide) (by simp)) hi⟩
  ·go_wp2_with fail
   exact ⟨rfl, RP.bad (by simp only [Px.newValue, bind, Px.Rd.bind, offset_res, if_true, if_false, Bool.false_eq_true, hq1.out, hq2.out]) (HF1.out.join (X := [w.heap.size + 1]) (Fr.trans (by repeat' (first | (with_reducible first | exact Fr.refl _ _ | refine Fr.setCell ?_ (Or.inl ?_) _ | refine Fr.alloc ?_ _ | refine Fr.drewN ?_ _) | (simp; done))) hf.wide) (by simp)) hi⟩
 ·go_wp2_with fail
  exact ⟨rfl, RP.bad (by simp only [Px.newValue, bind, Px.Rd.bind, offset_res, if_true, if_false, Bool.false_eq_true, hq1.out]) ((Fr.refl [c.R] w).join (X := [w.heap.size + 1]) (Fr.trans (by repeat' (first | (with_reducible first | exact Fr.refl _ _ | refine Fr.setCell ?_ (Or.inl ?_) _ | refine Fr.alloc ?_ _ | refine Fr.drewN ?_ _) | (simp; done))) hf.wide) (by simp)) hi⟩
set_option maxRecDepth 100000 in
set_option maxHeartbeats 1600000 in
theorem afterName_any (c : Ctx) (x : Txt) (ts : List Tk) (w : World) (h : Inv c ts w) :
  Calls Tryz.prog 286 #[.pointer (some ⟨c.R, 0, none⟩), .string ⟨x.toArray⟩] w (RP c w (okAgg exprQ) (Px.afterName x ts)) := by
 have hmf := make_func
 have H := Lib.hid h
 have HR0 := H.out.lt.1
 clear h
 go_enter Tryz.func286, Tryz.ntmps286
 go_wp2_with fail
 refine (word_any c ts _ (by exact H.out.fr (X := []) H.out (by repeat' (first | (with_reducible first | exact Fr.refl _ _ | refine Fr.setCell ?_ (Or.inl ?_) _ | refine Fr.alloc ?_ _ | refine Fr.drewN ?_ _) | (simp; done))) (by simp))).mono ?_
 rintro e w' ⟨rfl, rfl⟩
 go_wp2_with fail
 refine (accept_any c ts [[43], [45], [42], [60], [61, 61]] _ _ 5 (by exact H.out.fr (X := []) H.out (by repeat' (first | (with_reducible first | exact Fr.refl _ _ | refine Fr.setCell ?_ (Or.inl ?_) _ | refine Fr.alloc ?_ _ | refine Fr.drewN ?_ _) | (simp; done))) (by simp)) rfl (by exact Blk.new_at (by simp)) rfl (by decide)).mono ?_
 rintro e w1 hp
 rcases hp.accept with ⟨hq1, _, hf, hi, rfl⟩ | ⟨hq1, hf, hi, rfl⟩
 ·clear hp
  have hl1 := accept_pos hq1.out rfl
  have hT : Fr [c.R] w w1 := Fr.trans (by repeat' (first | (with_reducible first | exact Fr.refl _ _ | refine Fr.setCell ?_ (Or.inl ?_) _ | refine Fr.alloc ?_ _ | refine Fr.drewN ?_ _) | (simp; done))) hf.wide
  have HB1 : Hid (Blk w1 (w.heap.size) 69 #[.int .i64 0, .string ⟨#[]⟩, .string ⟨#[]⟩, .string ⟨#[]⟩, .slice none 0 0, .int .i64 0, .slice none 0 0, .int .i64 0]) := Lib.hid ((Blk.alloc (Blk.new w _ _) _).keep hf (by simp; omega))
  have HI1 := Lib.hid hi
  have HF1 := Lib.hid ((Fr.refl [c.R] w).join hT (by simp))
  have hz1 := hf.size
  try simp at hz1
  clear hT hf hi
  go_wp2_with fail
  refine (name_any c ts.tail _ (by exact HI1.out.fr (X := []) H.out (by repeat' (first | (with_reducible first | exact Fr.refl _ _ | refine Fr.setCell ?_ (Or.inl ?_) _ | refine Fr.alloc ?_ _ | refine Fr.drewN ?_ _) | (simp; done))) (by simp))).mono ?_
  rintro e w2 hp
  rcases hp.cases with ⟨x2, ts2, v2, hq2, hf, hi, rfl, hv⟩ | ⟨ts2, hq2, hf, hi, rfl⟩
  ·clear hp
   obtain rfl := hv
   have hT : Fr [c.R] w1 w2 := Fr.trans (by repeat' (first | (with_reducible first | exact Fr.refl _ _ | refine Fr.setCell ?_ (Or.inl ?_) _ | refine Fr.alloc ?_ _ | refine Fr.drewN ?_ _) | (simp; done))) hf.wide
   have HB2 : Hid (Blk w2 (w.heap.size) 69 #[.int .i64 0, .string ⟨#[]⟩, .string ⟨#[]⟩, .string ⟨#[]⟩, .slice none 0 0, .int .i64 0, .slice none 0 0, .int .i64 0]) := Lib.hid (HB1.out.keep hT (by simp; omega))
   have HI2 := Lib.hid hi
   have HF2 := Lib.hid (HF1.out.join hT (by simp))
   have hz2 := hf.size
   try simp at hz2
   have hl2 : ts2.length < ts.tail.length := Strict.name _ _ _ hq2.out
   clear hT hf hi
   have hlB : w.heap.size < w2.heap.size := by omega
   have b0 : w2.cell? ⟨w.heap.size, 0, none⟩ = some (.int .i64 0) := HB2.out.cell 0
   have b1 : w2.cell? ⟨w.heap.size, 1, none⟩ = some (.string ⟨#[]⟩) := HB2.out.cell 1
   have b2 : w2.cell? ⟨w.heap.size, 2, none⟩ = some (.string ⟨#[]⟩) := HB2.out.cell 2
   have b3 : w2.cell? ⟨w.heap.size, 3, none⟩ = some (.string ⟨#[]⟩) := HB2.out.cell 3
   have b4 : w2.cell? ⟨w.heap.size, 4, none⟩ = some (.slice none 0 0) := HB2.out.cell 4
   have b5 : w2.cell? ⟨w.heap.size, 5, none⟩ = some (.int .i64 0) := HB2.out.cell 5
   have b6 : w2.cell? ⟨w.heap.size, 6, none⟩ = some (.slice none 0 0) := HB2.out.cell 6
   have b7 : w2.cell? ⟨w.heap.size, 7, none⟩ = some (.int .i64 0) := HB2.out.cell 7
   have g0 : w2.frozen? ⟨w.heap.size, 0, none⟩ = false := HB2.out.frozen 0
   have g1 : w2.frozen? ⟨w.heap.size, 1, none⟩ = false := HB2.out.frozen 1
   have g2 : w2.frozen? ⟨w.heap.size, 2, none⟩ = false := HB2.out.frozen 2
   have g3 : w2.frozen? ⟨w.heap.size, 3, none⟩ = false := HB2.out.frozen 3
   have g4 : w2.frozen? ⟨w.heap.size, 4, none⟩ = false := HB2.out.frozen 4
   have g5 : w2.frozen? ⟨w.heap.size, 5, none⟩ = false := HB2.out.frozen 5
   have g6 : w2.frozen? ⟨w.heap.size, 6, none⟩ = false := HB2.out.frozen 6
   have g7 : w2.frozen? ⟨w.heap.size, 7, none⟩ = false := HB2.out.frozen 7
   go_wp2_with fail
   refine bodyPost_ret (v := .agg #[.int .i64 3, .string ⟨(Px.word ts).toArray⟩, .string ⟨#[]⟩, .string ⟨#[]⟩, .slice (some ⟨w2.heap.size, 0, none⟩) 2 2, .int .i64 0, .slice none 0 0, .int .i64 0]) (by simp [results, Tryz.results286, go_sem, hlB, b0, b1, b2, b3, b4, b5, b6, b7, g0, g1, g2, g3, g4, g5, g6, g7]) rfl ?_
   clear hlB b0 b1 b2 b3 b4 b5 b6 b7 g0 g1 g2 g3 g4 g5 g6 g7
   exact RP.ok (a := { Px.expr0 with kind := 3, op := Px.word ts, names := [x, x2] }) (by simp only [Px.afterName, bind, Px.Rd.bind, offset_res, if_true, if_false, Bool.false_eq_true, Px.wordR, hq1.out, hq2.out] <;> rfl) (HF2.out.join (X := [w.heap.size]) (by repeat' (first | (with_reducible first | exact Fr.refl _ _ | refine Fr.setCell ?_ (Or.inl ?_) _ | refine Fr.alloc ?_ _ | refine Fr.drewN ?_ _) | (simp; done))) (by simp)) (HI2.out.fr (X := [w.heap.size]) H.out (by repeat' (first | (with_reducible first | exact Fr.refl _ _ | refine Fr.setCell ?_ (Or.inl ?_) _ | refine Fr.alloc ?_ _ | refine Fr.drewN ?_ _) | (simp; done))) (by simp)) ⟨[.int .i64 3, .string ⟨(Px.word ts).toArray⟩, .string ⟨#[]⟩, .string ⟨#[]⟩, .slice (some ⟨w2.heap.size, 0, none⟩) 2 2, .int .i64 0, .slice none 0 0, .int .i64 0], rfl, rep_int.2 ⟨_, rfl, rep_str.2 ⟨_, rfl, rep_str.2 ⟨_, rfl, rep_str.2 ⟨_, rfl, rep_sl.2 ⟨_, _, rfl, (strs_row (l := [x, x2]) (b := w.heap.size) (g := w2.heap.size) (show Blk _ _ _ #[.string ⟨x.toArray⟩, .string ⟨x2.toArray⟩] from (by repeat' (first | with_reducible refine Blk.new_at ?_ | with_reducible refine Blk.alloc ?_ _ | with_reducible refine Blk.other ?_ ?_ _ | (simp; done) | (simp; omega)))) (by omega) (by simp) (by simp)), rep_int.2 ⟨_, rfl, rep_sl.2 ⟨_, _, rfl, RowV.nil _ _ _ _, rep_int.2 ⟨_, rfl, rep_nil.2 rfl⟩⟩⟩⟩⟩⟩⟩⟩⟩
  ·go_wp2_with fail
   exact ⟨rfl, RP.bad (by simp only [Px.afterName, bind, Px.Rd.bind, offset_res, if_true, if_false, Bool.false_eq_true, Px.wordR, hq1.out, hq2.out]) (HF1.out.join (X := []) (Fr.trans (by repeat' (first | (with_reducible first | exact Fr.refl _ _ | refine Fr.setCell ?_ (Or.inl ?_) _ | refine Fr.alloc ?_ _ | refine Fr.drewN ?_ _) | (simp; done))) hf.wide) (by simp)) hi⟩
 ·clear hp
  have hT : Fr [c.R] w w1 := Fr.trans (by repeat' (first | (with_reducible first | exact Fr.refl _ _ | refine Fr.setCell ?_ (Or.inl ?_) _ | refine Fr.alloc ?_ _ | refine Fr.drewN ?_ _) | (simp; done))) hf.wide
  have HB1 : Hid (Blk w1 (w.heap.size) 69 #[.int .i64 0, .string ⟨#[]⟩, .string ⟨#[]⟩, .string ⟨#[]⟩, .slice none 0 0, .int .i64 0, .slice none 0 0, .int .i64 0]) := Lib.hid ((Blk.alloc (Blk.new w _ _) _).keep hf (by simp; omega))
  have HI1 := Lib.hid hi
  have HF1 := Lib.hid ((Fr.refl [c.R] w).join hT (by simp))
  have hz1 := hf.size
  try simp at hz1
  clear hT hf hi
  go_wp2_with fail
  refine (accept_any c ts [[46]] _ _ 1 (by exact HI1.out.fr (X := []) H.out (by repeat' (first | (with_reducible first | exact Fr.refl _ _ | refine Fr.setCell ?_ (Or.inl ?_) _ | refine Fr.alloc ?_ _ | refine Fr.drewN ?_ _) | (simp; done))) (by simp)) rfl (by exact Blk.new_at (by simp)) rfl (by decide)).mono ?_
  rintro e w3 hp
  rcases hp.accept with ⟨hq3, _, hf, hi, rfl⟩ | ⟨hq3, hf, hi, rfl⟩
  ·clear hp
   have hl3 := accept_pos hq3.out rfl
   have hT : Fr [c.R] w1 w3 := Fr.trans (by repeat' (first | (with_reducible first | exact Fr.refl _ _ | refine Fr.setCell ?_ (Or.inl ?_) _ | refine Fr.alloc ?_ _ | refine Fr.drewN ?_ _) | (simp; done))) hf.wide
   have HB3 : Hid (Blk w3 (w.heap.size) 69 #[.int .i64 0, .string ⟨#[]⟩, .string ⟨#[]⟩, .string ⟨#[]⟩, .slice none 0 0, .int .i64 0, .slice none 0 0, .int .i64 0]) := Lib.hid (HB1.out.keep hT (by simp; omega))
   have HI3 := Lib.hid hi
   have HF3 := Lib.hid (HF1.out.join hT (by simp))
   have hz3 := hf.size
   try simp at hz3
   clear hT hf hi
   go_wp2_with fail
   refine (number_any c ts.tail _ (by exact HI3.out.fr (X := []) H.out (by repeat' (first | (with_reducible first | exact Fr.refl _ _ | refine Fr.setCell ?_ (Or.inl ?_) _ | refine Fr.alloc ?_ _ | refine Fr.drewN ?_ _) | (simp; done))) (by simp))).mono ?_
   rintro e w4 hp
   rcases hp.cases with ⟨x4, ts4, v4, hq4, hf, hi, rfl, hv⟩ | ⟨ts4, hq4, hf, hi, rfl⟩
   ·clear hp
    obtain rfl := hv
    have hT : Fr [c.R] w3 w4 := Fr.trans (by repeat' (first | (with_reducible first | exact Fr.refl _ _ | refine Fr.setCell ?_ (Or.inl ?_) _ | refine Fr.alloc ?_ _ | refine Fr.drewN ?_ _) | (simp; done))) hf.wide
    have HB4 : Hid (Blk w4 (w.heap.size) 69 #[.int .i64 0, .string ⟨#[]⟩, .string ⟨#[]⟩, .string ⟨#[]⟩, .slice none 0 0, .int .i64 0, .slice none 0 0, .int .i64 0]) := Lib.hid (HB3.out.keep hT (by simp; omega))
    have hN : Blk w4 (w3.heap.size) 9 #[.string ⟨x.toArray⟩] := Blk.keep (by repeat' (first | with_reducible refine Blk.new_at ?_ | with_reducible refine Blk.alloc ?_ _ | with_reducible refine Blk.other ?_ ?_ _ | (simp; done) | (simp; omega))) hf (by simp; omega)
    have hNr := strs_row (l := [x]) (b := w.heap.size + 1) hN (by omega) (by simp) (by simp)
    have HS_4 := Lib.hid hNr
    clear hN hNr
    have HI4 := Lib.hid hi
    have HF4 := Lib.hid (HF3.out.join hT (by simp))
    have hz4 := hf.size
    try simp at hz4
    have hl4 : ts4.length ≤ ts.tail.length := (Shr.number).ok hq4.out
    clear hT hf hi
    have hlB : w.heap.size < w4.heap.size := by omega
    have b0 : w4.cell? ⟨w.heap.size, 0, none⟩ = some (.int .i64 0) := HB4.out.cell 0
    have b1 : w4.cell? ⟨w.heap.size, 1, none⟩ = some (.string ⟨#[]⟩) := HB4.out.cell 1
    have b2 : w4.cell? ⟨w.heap.size, 2, none⟩ = some (.string ⟨#[]⟩) := HB4.out.cell 2
    have b3 : w4.cell? ⟨w.heap.size, 3, none⟩ = some (.string ⟨#[]⟩) := HB4.out.cell 3
    have b4 : w4.cell? ⟨w.heap.size, 4, none⟩ = some (.slice none 0 0) := HB4.out.cell 4
    have b5 : w4.cell? ⟨w.heap.size, 5, none⟩ = some (.int .i64 0) := HB4.out.cell 5
    have b6 : w4.cell? ⟨w.heap.size, 6, none⟩ = some (.slice none 0 0) := HB4.out.cell 6
    have b7 : w4.cell? ⟨w.heap.size, 7, none⟩ = some (.int .i64 0) := HB4.out.cell 7
    have g0 : w4.frozen? ⟨w.heap.size, 0, none⟩ = false := HB4.out.frozen 0
    have g1 : w4.frozen? ⟨w.heap.size, 1, none⟩ = false := HB4.out.frozen 1
    have g2 : w4.frozen? ⟨w.heap.size, 2, none⟩ = false := HB4.out.frozen 2
    have g3 : w4.frozen? ⟨w.heap.size, 3, none⟩ = false := HB4.out.frozen 3
    have g4 : w4.frozen? ⟨w.heap.size, 4, none⟩ = false := HB4.out.frozen 4
    have g5 : w4.frozen? ⟨w.heap.size, 5, none⟩ = false := HB4.out.frozen 5
    have g6 : w4.frozen? ⟨w.heap.size, 6, none⟩ = false := HB4.out.frozen 6
    have g7 : w4.frozen? ⟨w.heap.size, 7, none⟩ = false := HB4.out.frozen 7
    go_wp2_with fail
    refine bodyPost_ret (v := .agg #[.int .i64 13, .string ⟨#[]⟩, .string ⟨#[]⟩, .string ⟨#[]⟩, .slice (some ⟨w3.heap.size, 0, none⟩) 1 1, .int .i64 x4, .slice none 0 0, .int .i64 0]) (by simp [results, Tryz.results286, go_sem, hlB, b0, b1, b2, b3, b4, b5, b6, b7, g0, g1, g2, g3, g4, g5, g6, g7]) rfl ?_
    clear hlB b0 b1 b2 b3 b4 b5 b6 b7 g0 g1 g2 g3 g4 g5 g6 g7
    exact RP.ok (a := { Px.expr0 with kind := 13, names := [x], num := x4 }) (by simp only [Px.afterName, bind, Px.Rd.bind, offset_res, if_true, if_false, Bool.false_eq_true, Px.wordR, hq1.out, hq3.out, hq4.out] <;> rfl) (HF4.out.join (X := [w.heap.size]) (by repeat' (first | (with_reducible first | exact Fr.refl _ _ | refine Fr.setCell ?_ (Or.inl ?_) _ | refine Fr.alloc ?_ _ | refine Fr.drewN ?_ _) | (simp; done))) (by simp)) (HI4.out.fr (X := [w.heap.size]) H.out (by repeat' (first | (with_reducible first | exact Fr.refl _ _ | refine Fr.setCell ?_ (Or.inl ?_) _ | refine Fr.alloc ?_ _ | refine Fr.drewN ?_ _) | (simp; done))) (by simp)) ⟨[.int .i64 13, .string ⟨#[]⟩, .string ⟨#[]⟩, .string ⟨#[]⟩, .slice (some ⟨w3.heap.size, 0, none⟩) 1 1, .int .i64 x4, .slice none 0 0, .int .i64 0], rfl, rep_int.2 ⟨_, rfl, rep_str.2 ⟨_, rfl, rep_str.2 ⟨_, rfl, rep_str.2 ⟨_, rfl, rep_sl.2 ⟨_, _, rfl, (row_own (b := w.heap.size) HS_4.out (by first | omega | (simp; done) | (simp; omega)) (X := [w.heap.size]) (by repeat' (first | (with_reducible first | exact Fr.refl _ _ | refine Fr.setCell ?_ (Or.inl ?_) _ | refine Fr.alloc ?_ _ | refine Fr.drewN ?_ _) | (simp; done))) (by first | omega | (simp; done) | (simp; omega))), rep_int.2 ⟨_, rfl, rep_sl.2 ⟨_, _, rfl, RowV.nil _ _ _ _, rep_int.2 ⟨_, rfl, rep_nil.2 rfl⟩⟩⟩⟩⟩⟩⟩⟩⟩
   ·go_wp2_with fail
    exact ⟨rfl, RP.bad (by simp only [Px.afterName, bind, Px.Rd.bind, offset_res, if_true, if_false, Bool.false_eq_true, Px.wordR, hq1.out, hq3.out, hq4.out]) (HF3.out.join (X := []) (Fr.trans (by repeat' (first | (with_reducible first | exact Fr.refl _ _ | refine Fr.setCell ?_ (Or.inl ?_) _ | refine Fr.alloc ?_ _ | refine Fr.drewN ?_ _) | (simp; done))) hf.wide) (by simp)) hi⟩
  ·clear hp
   have hT : Fr [c.R] w1 w3 := Fr.trans (by repeat' (first | (with_reducible first | exact Fr.refl _ _ | refine Fr.setCell ?_ (Or.inl ?_) _ | refine Fr.alloc ?_ _ | refine Fr.drewN ?_ _) | (simp; done))) hf.wide
   have HB3 : Hid (Blk w3 (w.heap.size) 69 #[.int .i64 0, .string ⟨#[]⟩, .string ⟨#[]⟩, .string ⟨#[]⟩, .slice none 0 0, .int .i64 0, .slice none 0 0, .int .i64 0]) := Lib.hid (HB1.out.keep hT (by simp; omega))
   have HI3 := Lib.hid hi
   have HF3 := Lib.hid (HF1.out.join hT (by simp))
   have hz3 := hf.size
   try simp at hz3
   clear hT hf hi
   by_cases e1 : Px.word ts = [40]
   ·have n1 : (Px.word ts == [40]) = true := by simpa using e1
    have N1 := Lib.hid e1
    clear e1
    go_wp2_with fail
    refine (pos_str c _ (ts.length + 1) _ enters_name (reads_name c _) Shr.name [40] [41] (by decide) (by decide) ts _ (by exact HI3.out.fr (X := []) H.out (by repeat' (first | (with_reducible first | exact Fr.refl _ _ | refine Fr.setCell ?_ (Or.inl ?_) _ | refine Fr.alloc ?_ _ | refine Fr.drewN ?_ _) | (simp; done))) (by simp)) (by omega)).mono ?_
    rintro e w5 hp
    rcases hp.cases with ⟨x5, ts5, v5, hq5, hf, hi, rfl, hv⟩ | ⟨ts5, hq5, hf, hi, rfl⟩
    ·clear hp
     obtain ⟨p5, n5, k5, rfl⟩ := row_shp hv
     have hV5 := row_own (b := w.heap.size + 1) hv (by first | omega | (simp; done) | (simp; omega)) (Fr.refl [] _) (by simp)
     have hT : Fr [c.R] w3 w5 := Fr.trans (by repeat' (first | (with_reducible first | exact Fr.refl _ _ | refine Fr.setCell ?_ (Or.inl ?_) _ | refine Fr.alloc ?_ _ | refine Fr.drewN ?_ _) | (simp; done))) hf.wide
     have HB5 : Hid (Blk w5 (w.heap.size) 69 #[.int .i64 0, .string ⟨#[]⟩, .string ⟨#[]⟩, .string ⟨#[]⟩, .slice none 0 0, .int .i64 0, .slice none 0 0, .int .i64 0]) := Lib.hid (HB3.out.keep hT (by simp; omega))
     have HI5 := Lib.hid hi
     have HF5 := Lib.hid (HF3.out.join hT (by simp))
     have hz5 := hf.size
     try simp at hz5
     have HV5 := Lib.hid hV5
     have hl5 : ts5.length ≤ ts.length := (Shr.pos Shr.name _ _).ok hq5.out
     clear hT hf hi hV5 hv
     have hlB : w.heap.size < w5.heap.size := by omega
     have b0 : w5.cell? ⟨w.heap.size, 0, none⟩ = some (.int .i64 0) := HB5.out.cell 0
     have b1 : w5.cell? ⟨w.heap.size, 1, none⟩ = some (.string ⟨#[]⟩) := HB5.out.cell 1
     have b2 : w5.cell? ⟨w.heap.size, 2, none⟩ = some (.string ⟨#[]⟩) := HB5.out.cell 2
     have b3 : w5.cell? ⟨w.heap.size, 3, none⟩ = some (.string ⟨#[]⟩) := HB5.out.cell 3
     have b4 : w5.cell? ⟨w.heap.size, 4, none⟩ = some (.slice none 0 0) := HB5.out.cell 4
     have b5 : w5.cell? ⟨w.heap.size, 5, none⟩ = some (.int .i64 0) := HB5.out.cell 5
     have b6 : w5.cell? ⟨w.heap.size, 6, none⟩ = some (.slice none 0 0) := HB5.out.cell 6
     have b7 : w5.cell? ⟨w.heap.size, 7, none⟩ = some (.int .i64 0) := HB5.out.cell 7
     have g0 : w5.frozen? ⟨w.heap.size, 0, none⟩ = false := HB5.out.frozen 0
     have g1 : w5.frozen? ⟨w.heap.size, 1, none⟩ = false := HB5.out.frozen 1
     have g2 : w5.frozen? ⟨w.heap.size, 2, none⟩ = false := HB5.out.frozen 2
     have g3 : w5.frozen? ⟨w.heap.size, 3, none⟩ = false := HB5.out.frozen 3
     have g4 : w5.frozen? ⟨w.heap.size, 4, none⟩ = false := HB5.out.frozen 4
     have g5 : w5.frozen? ⟨w.heap.size, 5, none⟩ = false := HB5.out.frozen 5
     have g6 : w5.frozen? ⟨w.heap.size, 6, none⟩ = false := HB5.out.frozen 6
     have g7 : w5.frozen? ⟨w.heap.size, 7, none⟩ = false := HB5.out.frozen 7
     go_wp2_with fail
     refine bodyPost_ret (v := .agg #[.int .i64 15, .string ⟨#[]⟩, .string ⟨x.toArray⟩, .string ⟨#[]⟩, .slice p5 n5 k5, .int .i64 0, .slice none 0 0, .int .i64 0]) (by simp [results, Tryz.results286, go_sem, hlB, b0, b1, b2, b3, b4, b5, b6, b7, g0, g1, g2, g3, g4, g5, g6, g7]) rfl ?_
     clear hlB b0 b1 b2 b3 b4 b5 b6 b7 g0 g1 g2 g3 g4 g5 g6 g7
     exact RP.ok (by simp only [Px.afterName, bind, Px.Rd.bind, offset_res, if_true, if_false, Bool.false_eq_true, Px.wordR, if_pos N1.out, hq1.out, hq3.out, hq5.out] <;> rfl) (HF5.out.join (X := [w.heap.size]) (by repeat' (first | (with_reducible first | exact Fr.refl _ _ | refine Fr.setCell ?_ (Or.inl ?_) _ | refine Fr.alloc ?_ _ | refine Fr.drewN ?_ _) | (simp; done))) (by simp)) (HI5.out.fr (X := [w.heap.size]) H.out (by repeat' (first | (with_reducible first | exact Fr.refl _ _ | refine Fr.setCell ?_ (Or.inl ?_) _ | refine Fr.alloc ?_ _ | refine Fr.drewN ?_ _) | (simp; done))) (by simp)) ⟨[.int .i64 15, .string ⟨#[]⟩, .string ⟨x.toArray⟩, .string ⟨#[]⟩, .slice p5 n5 k5, .int .i64 0, .slice none 0 0, .int .i64 0], rfl, rep_int.2 ⟨_, rfl, rep_str.2 ⟨_, rfl, rep_str.2 ⟨_, rfl, rep_str.2 ⟨_, rfl, rep_sl.2 ⟨_, _, rfl, (row_own (b := w.heap.size) HV5.out (by first | omega | (simp; done) | (simp; omega)) (X := [w.heap.size]) (by repeat' (first | (with_reducible first | exact Fr.refl _ _ | refine Fr.setCell ?_ (Or.inl ?_) _ | refine Fr.alloc ?_ _ | refine Fr.drewN ?_ _) | (simp; done))) (by first | omega | (simp; done) | (simp; omega))), rep_int.2 ⟨_, rfl, rep_sl.2 ⟨_, _, rfl, RowV.nil _ _ _ _, rep_int.2 ⟨_, rfl, rep_nil.2 rfl⟩⟩⟩⟩⟩⟩⟩⟩⟩
    ·go_wp2_with fail
     exact ⟨rfl, RP.bad (by simp only [Px.afterName, bind, Px.Rd.bind, offset_res, if_true, if_false, Bool.false_eq_true, Px.wordR, if_pos N1.out, hq1.out, hq3.out, hq5.out]) (HF3.out.join (X := []) (Fr.trans (by repeat' (first | (with_reducible first | exact Fr.refl _ _ | refine Fr.setCell ?_ (Or.inl ?_) _ | refine Fr.alloc ?_ _ | refine Fr.drewN ?_ _) | (simp; done))) hf.wide) (by simp)) hi⟩
   ·have n1 : (Px.word ts == [40]) = false := by simpa using e1
    have N1 := Lib.hid e1
    clear e1
    go_wp2_with fail
    refine (accept_any c ts [[58, 58]] _ _ 1 (by exact HI3.out.fr (X := []) H.out (by repeat' (first | (with_reducible first | exact Fr.refl _ _ | refine Fr.setCell ?_ (Or.inl ?_) _ | refine Fr.alloc ?_ _ | refine Fr.drewN ?_ _) | (simp; done))) (by simp)) rfl (by exact Blk.new_at (by simp)) rfl (by decide)).mono ?_
    rintro e w6 hp
    rcases hp.accept with ⟨hq6, _, hf, hi, rfl⟩ | ⟨hq6, hf, hi, rfl⟩
    ·clear hp
     have hl6 := accept_pos hq6.out rfl
     have hT : Fr [c.R] w3 w6 := Fr.trans (by repeat' (first | (with_reducible first | exact Fr.refl _ _ | refine Fr.setCell ?_ (Or.inl ?_) _ | refine Fr.alloc ?_ _ | refine Fr.drewN ?_ _) | (simp; done))) hf.wide
     have HB6 : Hid (Blk w6 (w.heap.size) 69 #[.int .i64 0, .string ⟨#[]⟩, .string ⟨#[]⟩, .string ⟨#[]⟩, .slice none 0 0, .int .i64 0, .slice none 0 0, .int .i64 0]) := Lib.hid (HB3.out.keep hT (by simp; omega))
     have HI6 := Lib.hid hi
     have HF6 := Lib.hid (HF3.out.join hT (by simp))
     have hz6 := hf.size
     try simp at hz6
     clear hT hf hi
     go_wp2_with fail
     refine (name_any c ts.tail _ (by exact HI6.out.fr (X := []) H.out (by repeat' (first | (with_reducible first | exact Fr.refl _ _ | refine Fr.setCell ?_ (Or.inl ?_) _ | refine Fr.alloc ?_ _ | refine Fr.drewN ?_ _) | (simp; done))) (by simp))).mono ?_
     rintro e w7 hp
     rcases hp.cases with ⟨x7, ts7, v7, hq7, hf, hi, rfl, hv⟩ | ⟨ts7, hq7, hf, hi, rfl⟩
     ·clear hp
      obtain rfl := hv
      have hT : Fr [c.R] w6 w7 := Fr.trans (by repeat' (first | (with_reducible first | exact Fr.refl _ _ | refine Fr.setCell ?_ (Or.inl ?_) _ | refine Fr.alloc ?_ _ | refine Fr.drewN ?_ _) | (simp; done))) hf.wide
      have HB7 : Hid (Blk w7 (w.heap.size) 69 #[.int .i64 0, .string ⟨#[]⟩, .string ⟨#[]⟩, .string ⟨#[]⟩, .slice none 0 0, .int .i64 0, .slice none 0 0, .int .i64 0]) := Lib.hid (HB6.out.keep hT (by simp; omega))
      have HI7 := Lib.hid hi
      have HF7 := Lib.hid (HF6.out.join hT (by simp))
      have hz7 := hf.size
      try simp at hz7
      have hl7 : ts7.length < ts.tail.length := Strict.name _ _ _ hq7.out
      clear hT hf hi
      have hlB : w.heap.size < w7.heap.size := by omega
      have b0 : w7.cell? ⟨w.heap.size, 0, none⟩ = some (.int .i64 0) := HB7.out.cell 0
      have b1 : w7.cell? ⟨w.heap.size, 1, none⟩ = some (.string ⟨#[]⟩) := HB7.out.cell 1
      have b2 : w7.cell? ⟨w.heap.size, 2, none⟩ = some (.string ⟨#[]⟩) := HB7.out.cell 2
      have b3 : w7.cell? ⟨w.heap.size, 3, none⟩ = some (.string ⟨#[]⟩) := HB7.out.cell 3
      have b4 : w7.cell? ⟨w.heap.size, 4, none⟩ = some (.slice none 0 0) := HB7.out.cell 4
      have b5 : w7.cell? ⟨w.heap.size, 5, none⟩ = some (.int .i64 0) := HB7.out.cell 5
      have b6 : w7.cell? ⟨w.heap.size, 6, none⟩ = some (.slice none 0 0) := HB7.out.cell 6
      have b7 : w7.cell? ⟨w.heap.size, 7, none⟩ = some (.int .i64 0) := HB7.out.cell 7
      have g0 : w7.frozen? ⟨w.heap.size, 0, none⟩ = false := HB7.out.frozen 0
      have g1 : w7.frozen? ⟨w.heap.size, 1, none⟩ = false := HB7.out.frozen 1
      have g2 : w7.frozen? ⟨w.heap.size, 2, none⟩ = false := HB7.out.frozen 2
      have g3 : w7.frozen? ⟨w.heap.size, 3, none⟩ = false := HB7.out.frozen 3
      have g4 : w7.frozen? ⟨w.heap.size, 4, none⟩ = false := HB7.out.frozen 4
      have g5 : w7.frozen? ⟨w.heap.size, 5, none⟩ = false := HB7.out.frozen 5
      have g6 : w7.frozen? ⟨w.heap.size, 6, none⟩ = false := HB7.out.frozen 6
      have g7 : w7.frozen? ⟨w.heap.size, 7, none⟩ = false := HB7.out.frozen 7
      go_wp2_with fail
      refine bodyPost_ret (v := .agg #[.int .i64 16, .string ⟨#[]⟩, .string ⟨x.toArray⟩, .string ⟨#[]⟩, .slice (some ⟨w7.heap.size, 0, none⟩) 1 1, .int .i64 0, .slice none 0 0, .int .i64 0]) (by simp [results, Tryz.results286, go_sem, hlB, b0, b1, b2, b3, b4, b5, b6, b7, g0, g1, g2, g3, g4, g5, g6, g7]) rfl ?_
      clear hlB b0 b1 b2 b3 b4 b5 b6 b7 g0 g1 g2 g3 g4 g5 g6 g7
      exact RP.ok (a := { Px.expr0 with kind := 16, name := x, names := [x7] }) (by simp only [Px.afterName, bind, Px.Rd.bind, offset_res, if_true, if_false, Bool.false_eq_true, Px.wordR, if_neg N1.out, hq1.out, hq3.out, hq6.out, hq7.out] <;> rfl) (HF7.out.join (X := [w.heap.size]) (by repeat' (first | (with_reducible first | exact Fr.refl _ _ | refine Fr.setCell ?_ (Or.inl ?_) _ | refine Fr.alloc ?_ _ | refine Fr.drewN ?_ _) | (simp; done))) (by simp)) (HI7.out.fr (X := [w.heap.size]) H.out (by repeat' (first | (with_reducible first | exact Fr.refl _ _ | refine Fr.setCell ?_ (Or.inl ?_) _ | refine Fr.alloc ?_ _ | refine Fr.drewN ?_ _) | (simp; done))) (by simp)) ⟨[.int .i64 16, .string ⟨#[]⟩, .string ⟨x.toArray⟩, .string ⟨#[]⟩, .slice (some ⟨w7.heap.size, 0, none⟩) 1 1, .int .i64 0, .slice none 0 0, .int .i64 0], rfl, rep_int.2 ⟨_, rfl, rep_str.2 ⟨_, rfl, rep_str.2 ⟨_, rfl, rep_str.2 ⟨_, rfl, rep_sl.2 ⟨_, _, rfl, (strs_row (l := [x7]) (b := w.heap.size) (g := w7.heap.size) (show Blk _ _ _ #[.string ⟨x7.toArray⟩] from (by repeat' (first | with_reducible refine Blk.new_at ?_ | with_reducible refine Blk.alloc ?_ _ | with_reducible refine Blk.other ?_ ?_ _ | (simp; done) | (simp; omega)))) (by omega) (by simp) (by simp)), rep_int.2 ⟨_, rfl, rep_sl.2 ⟨_, _, rfl, RowV.nil _ _ _ _, rep_int.2 ⟨_, rfl, rep_nil.2 rfl⟩⟩⟩⟩⟩⟩⟩⟩⟩
     ·go_wp2_with fail
      exact ⟨rfl, RP.bad (by simp only [Px.afterName, bind, Px.Rd.bind, offset_res, if_true, if_false, Bool.false_eq_true, Px.wordR, if_neg N1.out, hq1.out, hq3.out, hq6.out, hq7.out]) (HF6.out.join (X := []) (Fr.trans (by repeat' (first | (with_reducible first | exact Fr.refl _ _ | refine Fr.setCell ?_ (Or.inl ?_) _ | refine Fr.alloc ?_ _ | refine Fr.drewN ?_ _) | (simp; done))) hf.wide) (by simp)) hi⟩
    ·clear hp
     have hT : Fr [c.R] w3 w6 := Fr.trans (by repeat' (first | (with_reducible first | exact Fr.refl _ _ | refine Fr.setCell ?_ (Or.inl ?_) _ | refine Fr.alloc ?_ _ | refine Fr.drewN ?_ _) | (simp; done))) hf.wide
     have HB6 : Hid (Blk w6 (w.heap.size) 69 #[.int .i64 0, .string ⟨#[]⟩, .string ⟨#[]⟩, .string ⟨#[]⟩, .slice none 0 0, .int .i64 0, .slice none 0 0, .int .i64 0]) := Lib.hid (HB3.out.keep hT (by simp; omega))
     have HI6 := Lib.hid hi
     have HF6 := Lib.hid (HF3.out.join hT (by simp))
     have hz6 := hf.size
     try simp at hz6
     clear hT hf hi
     have hlB : w.heap.size < w6.heap.size := by omega
     have b0 : w6.cell? ⟨w.heap.size, 0, none⟩ = some (.int .i64 0) := HB6.out.cell 0
     have b1 : w6.cell? ⟨w.heap.size, 1, none⟩ = some (.string ⟨#[]⟩) := HB6.out.cell 1
     have b2 : w6.cell? ⟨w.heap.size, 2, none⟩ = some (.string ⟨#[]⟩) := HB6.out.cell 2
     have b3 : w6.cell? ⟨w.heap.size, 3, none⟩ = some (.string ⟨#[]⟩) := HB6.out.cell 3
     have b4 : w6.cell? ⟨w.heap.size, 4, none⟩ = some (.slice none 0 0) := HB6.out.cell 4
     have b5 : w6.cell? ⟨w.heap.size, 5, none⟩ = some (.int .i64 0) := HB6.out.cell 5
     have b6 : w6.cell? ⟨w.heap.size, 6, none⟩ = some (.slice none 0 0) := HB6.out.cell 6
     have b7 : w6.cell? ⟨w.heap.size, 7, none⟩ = some (.int .i64 0) := HB6.out.cell 7
     have g0 : w6.frozen? ⟨w.heap.size, 0, none⟩ = false := HB6.out.frozen 0
     have g1 : w6.frozen? ⟨w.heap.size, 1, none⟩ = false := HB6.out.frozen 1
     have g2 : w6.frozen? ⟨w.heap.size, 2, none⟩ = false := HB6.out.frozen 2
     have g3 : w6.frozen? ⟨w.heap.size, 3, none⟩ = false := HB6.out.frozen 3
     have g4 : w6.frozen? ⟨w.heap.size, 4, none⟩ = false := HB6.out.frozen 4
     have g5 : w6.frozen? ⟨w.heap.size, 5, none⟩ = false := HB6.out.frozen 5
     have g6 : w6.frozen? ⟨w.heap.size, 6, none⟩ = false := HB6.out.frozen 6
     have g7 : w6.frozen? ⟨w.heap.size, 7, none⟩ = false := HB6.out.frozen 7
     go_wp2_with fail
     refine bodyPost_ret (v := .agg #[.int .i64 2, .string ⟨#[]⟩, .string ⟨#[]⟩, .string ⟨#[]⟩, .slice (some ⟨w6.heap.size, 0, none⟩) 1 1, .int .i64 0, .slice none 0 0, .int .i64 0]) (by simp [results, Tryz.results286, go_sem, hlB, b0, b1, b2, b3, b4, b5, b6, b7, g0, g1, g2, g3, g4, g5, g6, g7]) rfl ?_
     clear hlB b0 b1 b2 b3 b4 b5 b6 b7 g0 g1 g2 g3 g4 g5 g6 g7
     exact RP.ok (a := { Px.expr0 with kind := 2, names := [x] }) (by simp only [Px.afterName, bind, Px.Rd.bind, offset_res, if_true, if_false, Bool.false_eq_true, Px.wordR, if_neg N1.out, hq1.out, hq3.out, hq6.out] <;> rfl) (HF6.out.join (X := [w.heap.size]) (by repeat' (first | (with_reducible first | exact Fr.refl _ _ | refine Fr.setCell ?_ (Or.inl ?_) _ | refine Fr.alloc ?_ _ | refine Fr.drewN ?_ _) | (simp; done))) (by simp)) (HI6.out.fr (X := [w.heap.size]) H.out (by repeat' (first | (with_reducible first | exact Fr.refl _ _ | refine Fr.setCell ?_ (Or.inl ?_) _ | refine Fr.alloc ?_ _ | refine Fr.drewN ?_ _) | (simp; done))) (by simp)) ⟨[.int .i64 2, .string ⟨#[]⟩, .string ⟨#[]⟩, .string ⟨#[]⟩, .slice (some ⟨w6.heap.size, 0, none⟩) 1 1, .int .i64 0, .slice none 0 0, .int .i64 0], rfl, rep_int.2 ⟨_, rfl, rep_str.2 ⟨_, rfl, rep_str.2 ⟨_, rfl, rep_str.2 ⟨_, rfl, rep_sl.2 ⟨_, _, rfl, (strs_row (l := [x]) (b := w.heap.size) (g := w6.heap.size) (show Blk _ _ _ #[.string ⟨x.toArray⟩] from (by repeat' (first | with_reducible refine Blk.new_at ?_ | with_reducible refine Blk.alloc ?_ _ | with_reducible refine Blk.other ?_ ?_ _ | (simp; done) | (simp; omega)))) (by omega) (by simp) (by simp)), rep_int.2 ⟨_, rfl, rep_sl.2 ⟨_, _, rfl, RowV.nil _ _ _ _, rep_int.2 ⟨_, rfl, rep_nil.2 rfl⟩⟩⟩⟩⟩⟩⟩⟩⟩
end Go.Proofs.YtpdhiminpdmpiaaGreatDoor
