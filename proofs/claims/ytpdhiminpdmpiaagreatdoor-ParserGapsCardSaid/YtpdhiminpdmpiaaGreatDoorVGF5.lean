/-
 Walks of the readers of expressions, as a whole.
-/
import Derived.Test.YtpdhiminpdmpiaaGreatDoorVGF4
set_option linter.unusedVariables false
set_option linter.unusedSimpArgs false
set_option linter.unusedSectionVars false
set_option linter.unusedVariables false
set_option linter.unusedSimpArgs false
set_option linter.unusedSectionVars false
namespace Go.Proofs.YtpdhiminpdmpiaaGreatDoor
open Go.RowKit Go.Lib
open Lx (Tk)
open Px (Txt TyE VarD DataD TraitD BoundD ImplD ArgD ExprD StmtD ArmD FuncD ModD)
theorem reference_at (c : Ctx) (ts : List Tk) (w : World) (h : Inv c ts w) (u v x : Int) (a b d : Nat) (h1 : u = a) (h2 : v = b) (h3 : x = d) :
  Calls Tryz.prog 285 #[.pointer (some ⟨c.R, 0, none⟩), .int .i64 u, .int .i64 v, .int .i64 x] w (RP c w (okAgg exprQ) (Px.reference a b d ts)) := by
 subst h1; subst h2; subst h3; exact reference_any c a b d ts w h
def numB : List Tk → Bool
 | [] => false
 | t :: _ => t.kind == 2
theorem num_res (ts : List Tk) : Px.numR ts = .ok (numB ts) ts := by cases ts <;> rfl
theorem isNum_call (c : Ctx) (ts : List Tk) (w : World) (b : Bool) (h : Inv c ts w) (hb : numB ts = b) : Calls Tryz.prog 199 #[.pointer (some ⟨c.R, 0, none⟩), .int .i64 2] w fun e w' => e = .returned (.bool b) ∧ w = w' := by
 subst hb
 cases ts with
 | nil => exact isNext_nil c 2 w h
 | cons t r =>
  have := isNext_cons c t r 2 w h
  rwa [show ((t.kind : Int) == 2) = numB (t :: r) by rw [Bool.eq_iff_iff]; simp [numB]; omega] at this
theorem number_le {c : Ctx} {ts ts' : List Tk} {w : World} {x : Nat} (h : Inv c ts w) (hq : Px.number ts = .ok x ts') : x ≤ 1000000000 := by
 cases ts with
 | nil => cases hq
 | cons t r =>
  simp only [Px.number] at hq
  split at hq
  ·cases hq; exact h.nums t (by simp)
  ·cases hq
theorem expr_rep {w : World} {N : Nat → Prop} {e : ExprD} {o : Nat} {v0 v1 v2 v3 v4 v5 v6 v7 : Value} (h : Rep w N (exprQ e) [v0, v1, v2, v3, v4, v5, v6, v7]) : Rep w N (exprQ { e with off := o }) [v0, v1, v2, v3, v4, v5, v6, .int .i64 o] := by
 unfold exprQ strsQ typesS at *
 rw [rep_int] at h; obtain ⟨_, e0, h⟩ := h
 rw [rep_str] at h; obtain ⟨_, e1, h⟩ := h
 rw [rep_str] at h; obtain ⟨_, e2, h⟩ := h
 rw [rep_str] at h; obtain ⟨_, e3, h⟩ := h
 rw [rep_sl] at h; obtain ⟨u4, _, e4, r4, h⟩ := h
 rw [rep_int] at h; obtain ⟨_, e5, h⟩ := h
 rw [rep_sl] at h; obtain ⟨u6, _, e6, r6, h⟩ := h
 simp only [List.cons.injEq] at e0
 obtain ⟨rfl, rfl⟩ := e0
 simp only [List.cons.injEq] at e1
 obtain ⟨rfl, rfl⟩ := e1
 simp only [List.cons.injEq] at e2
 obtain ⟨rfl, rfl⟩ := e2
 simp only [List.cons.injEq] at e3
 obtain ⟨rfl, rfl⟩ := e3
 simp only [List.cons.injEq] at e4
 obtain ⟨rfl, rfl⟩ := e4
 simp only [List.cons.injEq] at e5
 obtain ⟨rfl, rfl⟩ := e5
 simp only [List.cons.injEq] at e6
 obtain ⟨rfl, rfl⟩ := e6
 exact rep_int.2 ⟨_, rfl, rep_str.2 ⟨_, rfl, rep_str.2 ⟨_, rfl, rep_str.2 ⟨_, rfl, rep_sl.2 ⟨_, _, rfl, r4, rep_int.2 ⟨_, rfl, rep_sl.2 ⟨_, _, rfl, r6, rep_int.2 ⟨_, rfl, rep_nil.2 rfl⟩⟩⟩⟩⟩⟩⟩⟩
set_option maxRecDepth 100000 in
set_option maxHeartbeats 1600000 in
theorem unplaced_num (c : Ctx) (ts : List Tk) (w : World) (h : Inv c ts w) (n : Nat) (hty : Reads c 189 n (okAgg typeQ) (Px.typeF c.size n)) (hm : ts.length < n) (hnb : numB ts = true) :
  Calls Tryz.prog 231 #[.pointer (some ⟨c.R, 0, none⟩)] w (RP c w (okAgg exprQ) (Px.unplaced c.size n ts)) := by
 have HTY : Hid (Reads c 189 n (okAgg typeQ) (Px.typeF c.size n)) := Lib.hid hty
 clear hty
 have hmf := make_func
 have HNB := Lib.hid hnb
 clear hnb
 have H := Lib.hid h
 have HR0 := H.out.lt.1
 clear h
 go_enter Tryz.func231, Tryz.ntmps231
 go_wp2_with fail
 refine (isNum_call c ts _ true (by exact H.out.fr (X := []) H.out (by repeat' (first | (with_reducible first | exact Fr.refl _ _ | refine Fr.setCell ?_ (Or.inl ?_) _ | refine Fr.alloc ?_ _ | refine Fr.drewN ?_ _) | (simp; done))) (by simp)) HNB.out).mono ?_
 rintro e w' ⟨rfl, rfl⟩
 go_wp2_with fail
 refine (number_any c ts _ (by exact H.out.fr (X := []) H.out (by repeat' (first | (with_reducible first | exact Fr.refl _ _ | refine Fr.setCell ?_ (Or.inl ?_) _ | refine Fr.alloc ?_ _ | refine Fr.drewN ?_ _) | (simp; done))) (by simp))).mono ?_
 rintro e w1 hp
 rcases hp.cases with ⟨x1, ts1, v1, hq1, hf, hi, rfl, hv⟩ | ⟨ts1, hq1, hf, hi, rfl⟩
 ·clear hp
  obtain rfl := hv
  have hT : Fr [c.R] w w1 := Fr.trans (by repeat' (first | (with_reducible first | exact Fr.refl _ _ | refine Fr.setCell ?_ (Or.inl ?_) _ | refine Fr.alloc ?_ _ | refine Fr.drewN ?_ _) | (simp; done))) hf.wide
  have HB1 : Hid (Blk w1 (w.heap.size) 69 #[.int .i64 0, .string ⟨#[]⟩, .string ⟨#[]⟩, .string ⟨#[]⟩, .slice none 0 0, .int .i64 0, .slice none 0 0, .int .i64 0]) := Lib.hid ((Blk.new w _ _).keep hf (by simp; omega))
  have HI1 := Lib.hid hi
  have HF1 := Lib.hid ((Fr.refl [c.R] w).join hT (by simp))
  have hz1 := hf.size
  try simp at hz1
  have hl1 : ts1.length ≤ ts.length := (Shr.number).ok hq1.out
  clear hT hf hi
  have hlB : w.heap.size < w1.heap.size := by omega
  have b0 : w1.cell? ⟨w.heap.size, 0, none⟩ = some (.int .i64 0) := HB1.out.cell 0
  have b1 : w1.cell? ⟨w.heap.size, 1, none⟩ = some (.string ⟨#[]⟩) := HB1.out.cell 1
  have b2 : w1.cell? ⟨w.heap.size, 2, none⟩ = some (.string ⟨#[]⟩) := HB1.out.cell 2
  have b3 : w1.cell? ⟨w.heap.size, 3, none⟩ = some (.string ⟨#[]⟩) := HB1.out.cell 3
  have b4 : w1.cell? ⟨w.heap.size, 4, none⟩ = some (.slice none 0 0) := HB1.out.cell 4
  have b5 : w1.cell? ⟨w.heap.size, 5, none⟩ = some (.int .i64 0) := HB1.out.cell 5
  have b6 : w1.cell? ⟨w.heap.size, 6, none⟩ = some (.slice none 0 0) := HB1.out.cell 6
  have b7 : w1.cell? ⟨w.heap.size, 7, none⟩ = some (.int .i64 0) := HB1.out.cell 7
  have g0 : w1.frozen? ⟨w.heap.size, 0, none⟩ = false := HB1.out.frozen 0
  have g1 : w1.frozen? ⟨w.heap.size, 1, none⟩ = false := HB1.out.frozen 1
  have g2 : w1.frozen? ⟨w.heap.size, 2, none⟩ = false := HB1.out.frozen 2
  have g3 : w1.frozen? ⟨w.heap.size, 3, none⟩ = false := HB1.out.frozen 3
  have g4 : w1.frozen? ⟨w.heap.size, 4, none⟩ = false := HB1.out.frozen 4
  have g5 : w1.frozen? ⟨w.heap.size, 5, none⟩ = false := HB1.out.frozen 5
  have g6 : w1.frozen? ⟨w.heap.size, 6, none⟩ = false := HB1.out.frozen 6
  have g7 : w1.frozen? ⟨w.heap.size, 7, none⟩ = false := HB1.out.frozen 7
  go_wp2_with fail
  refine bodyPost_ret (v := .agg #[.int .i64 1, .string ⟨#[]⟩, .string ⟨#[]⟩, .string ⟨#[]⟩, .slice none 0 0, .int .i64 x1, .slice none 0 0, .int .i64 0]) (by simp [results, Tryz.results231, go_sem, hlB, b0, b1, b2, b3, b4, b5, b6, b7, g0, g1, g2, g3, g4, g5, g6, g7]) rfl ?_
  clear hlB b0 b1 b2 b3 b4 b5 b6 b7 g0 g1 g2 g3 g4 g5 g6 g7
  exact RP.ok (a := { Px.expr0 with kind := 1, num := x1 }) (by simp only [Px.unplaced, bind, Px.Rd.bind, offset_res, if_true, if_false, Bool.false_eq_true, num_res, HNB.out, hq1.out] <;> rfl) (HF1.out.join (X := [w.heap.size]) (by repeat' (first | (with_reducible first | exact Fr.refl _ _ | refine Fr.setCell ?_ (Or.inl ?_) _ | refine Fr.alloc ?_ _ | refine Fr.drewN ?_ _) | (simp; done))) (by simp)) (HI1.out.fr (X := [w.heap.size]) H.out (by repeat' (first | (with_reducible first | exact Fr.refl _ _ | refine Fr.setCell ?_ (Or.inl ?_) _ | refine Fr.alloc ?_ _ | refine Fr.drewN ?_ _) | (simp; done))) (by simp)) ⟨[.int .i64 1, .string ⟨#[]⟩, .string ⟨#[]⟩, .string ⟨#[]⟩, .slice none 0 0, .int .i64 x1, .slice none 0 0, .int .i64 0], rfl, rep_int.2 ⟨_, rfl, rep_str.2 ⟨_, rfl, rep_str.2 ⟨_, rfl, rep_str.2 ⟨_, rfl, rep_sl.2 ⟨_, _, rfl, RowV.nil _ _ _ _, rep_int.2 ⟨_, rfl, rep_sl.2 ⟨_, _, rfl, RowV.nil _ _ _ _, rep_int.2 ⟨_, rfl, rep_nil.2 rfl⟩⟩⟩⟩⟩⟩⟩⟩⟩
 ·go_wp2_with fail
  exact ⟨rfl, RP.bad (by simp only [Px.unplaced, bind, Px.Rd.bind, offset_res, if_true, if_false, Bool.false_eq_true, num_res, HNB.out, hq1.out]) ((Fr.refl [c.R] w).join (X := []) (Fr.trans (by repeat' (first | (with_reducible first | exact Fr.refl _ _ | refine Fr.setCell ?_ (Or.inl ?_) _ | refine Fr.alloc ?_ _ | refine Fr.drewN ?_ _) | (simp; done))) hf.wide) (by simp)) hi⟩
set_option maxRecDepth 100000 in
set_option maxHeartbeats 8000000 in
theorem unplaced_not (c : Ctx) (ts : List Tk) (w : World) (h : Inv c ts w) (n : Nat) (hty : Reads c 189 n (okAgg typeQ) (Px.typeF c.size n)) (hm : ts.length < n) (hnb : numB ts = false) :
  Calls Tryz.prog 231 #[.pointer (some ⟨c.R, 0, none⟩)] w (RP c w (okAgg exprQ) (Px.unplaced c.size n ts)) := by
 have HTY : Hid (Reads c 189 n (okAgg typeQ) (Px.typeF c.size n)) := Lib.hid hty
 clear hty
 have hmf := make_func
 have HNB := Lib.hid hnb
 clear hnb
 have H := Lib.hid h
 have HR0 := H.out.lt.1
 clear h
 go_enter Tryz.func231, Tryz.ntmps231
 go_wp2_with fail
 refine (isNum_call c ts _ false (by exact H.out.fr (X := []) H.out (by repeat' (first | (with_reducible first | exact Fr.refl _ _ | refine Fr.setCell ?_ (Or.inl ?_) _ | refine Fr.alloc ?_ _ | refine Fr.drewN ?_ _) | (simp; done))) (by simp)) HNB.out).mono ?_
 rintro e w' ⟨rfl, rfl⟩
 go_wp2_with fail
 refine (accept_any c ts [[45]] _ _ 1 (by exact H.out.fr (X := []) H.out (by repeat' (first | (with_reducible first | exact Fr.refl _ _ | refine Fr.setCell ?_ (Or.inl ?_) _ | refine Fr.alloc ?_ _ | refine Fr.drewN ?_ _) | (simp; done))) (by simp)) rfl (by exact Blk.new_at (by simp)) rfl (by decide)).mono ?_
 rintro e w1 hp
 rcases hp.accept with ⟨hq1, _, hf, hi, rfl⟩ | ⟨hq1, hf, hi, rfl⟩
 ·clear hp
  have hl1 := accept_pos hq1.out rfl
  have hT : Fr [c.R] w w1 := Fr.trans (by repeat' (first | (with_reducible first | exact Fr.refl _ _ | refine Fr.setCell ?_ (Or.inl ?_) _ | refine Fr.alloc ?_ _ | refine Fr.drewN ?_ _) | (simp; done))) hf.wide
  have HB1 : Hid (Blk w1 (w.heap.size) 69 #[.int .i64 0, .string ⟨#[]⟩, .string ⟨#[]⟩, .string ⟨#[]⟩, .slice none 0 0, .int .i64 0, .slice none 0 0, .int .i64 0]) := Lib.hid ((Blk.alloc (Blk.new w _ _) _).keep hf (by simp; omega))
  have HI1 := Lib.hid hi
  have HF1 := Lib.hid ((Fr.refl [c.R] w).join hT (by simp))
  have hz1 := hf.size
  try simp at hz1
  clear hT hf hi
  go_wp2_with fail
  refine (number_any c ts.tail _ (by exact HI1.out.fr (X := []) H.out (by repeat' (first | (with_reducible first | exact Fr.refl _ _ | refine Fr.setCell ?_ (Or.inl ?_) _ | refine Fr.alloc ?_ _ | refine Fr.drewN ?_ _) | (simp; done))) (by simp))).mono ?_
  rintro e w2 hp
  rcases hp.cases with ⟨x2, ts2, v2, hq2, hf, hi, rfl, hv⟩ | ⟨ts2, hq2, hf, hi, rfl⟩
  ·clear hp
   obtain rfl := hv
   have hT : Fr [c.R] w1 w2 := Fr.trans (by repeat' (first | (with_reducible first | exact Fr.refl _ _ | refine Fr.setCell ?_ (Or.inl ?_) _ | refine Fr.alloc ?_ _ | refine Fr.drewN ?_ _) | (simp; done))) hf.wide
   have HB2 : Hid (Blk w2 (w.heap.size) 69 #[.int .i64 0, .string ⟨#[]⟩, .string ⟨#[]⟩, .string ⟨#[]⟩, .slice none 0 0, .int .i64 0, .slice none 0 0, .int .i64 0]) := Lib.hid (HB1.out.keep hT (by simp; omega))
   have HI2 := Lib.hid hi
   have HF2 := Lib.hid (HF1.out.join hT (by simp))
   have hz2 := hf.size
   try simp at hz2
   have hl2 : ts2.length ≤ ts.tail.length := (Shr.number).ok hq2.out
   clear hT hf hi
   have hx := number_le HI1.out hq2.out
   have hlB : w.heap.size < w2.heap.size := by omega
   have b0 : w2.cell? ⟨w.heap.size, 0, none⟩ = some (.int .i64 0) := HB2.out.cell 0
   have b1 : w2.cell? ⟨w.heap.size, 1, none⟩ = some (.string ⟨#[]⟩) := HB2.out.cell 1
   have b2 : w2.cell? ⟨w.heap.size, 2, none⟩ = some (.string ⟨#[]⟩) := HB2.out.cell 2
   have b3 : w2.cell? ⟨w.heap.size, 3, none⟩ = some (.string ⟨#[]⟩) := HB2.out.cell 3
   have b4 : w2.cell? ⟨w.heap.size, 4, none⟩ = some (.slice none 0 0) := HB2.out.cell 4
   have b5 : w2.cell? ⟨w.heap.size, 5, none⟩ = some (.int .i64 0) := HB2.out.cell 5
   have b6 : w2.cell? ⟨w.heap.size, 6, none⟩ = some (.slice none 0 0) := HB2.out.cell 6
   have b7 : w2.cell? ⟨w.heap.size, 7, none⟩ = some (.int .i64 0) := HB2.out.cell 7
   have g0 : w2.frozen? ⟨w.heap.size, 0, none⟩ = false := HB2.out.frozen 0
   have g1 : w2.frozen? ⟨w.heap.size, 1, none⟩ = false := HB2.out.frozen 1
   have g2 : w2.frozen? ⟨w.heap.size, 2, none⟩ = false := HB2.out.frozen 2
   have g3 : w2.frozen? ⟨w.heap.size, 3, none⟩ = false := HB2.out.frozen 3
   have g4 : w2.frozen? ⟨w.heap.size, 4, none⟩ = false := HB2.out.frozen 4
   have g5 : w2.frozen? ⟨w.heap.size, 5, none⟩ = false := HB2.out.frozen 5
   have g6 : w2.frozen? ⟨w.heap.size, 6, none⟩ = false := HB2.out.frozen 6
   have g7 : w2.frozen? ⟨w.heap.size, 7, none⟩ = false := HB2.out.frozen 7
   go_wp2_with fail
   refine bodyPost_ret (v := .agg #[.int .i64 1, .string ⟨#[]⟩, .string ⟨#[]⟩, .string ⟨#[]⟩, .slice none 0 0, .int .i64 (-(x2 : Int)), .slice none 0 0, .int .i64 0]) (by simp [results, Tryz.results231, go_sem, hlB, b0, b1, b2, b3, b4, b5, b6, b7, g0, g1, g2, g3, g4, g5, g6, g7]) rfl ?_
   clear hlB b0 b1 b2 b3 b4 b5 b6 b7 g0 g1 g2 g3 g4 g5 g6 g7
   exact RP.ok (a := { Px.expr0 with kind := 1, num := -(x2 : Int) }) (by simp only [Px.unplaced, bind, Px.Rd.bind, offset_res, if_true, if_false, Bool.false_eq_true, num_res, HNB.out, hq1.out, hq2.out] <;> rfl) (HF2.out.join (X := [w.heap.size]) (by repeat' (first | (with_reducible first | exact Fr.refl _ _ | refine Fr.setCell ?_ (Or.inl ?_) _ | refine Fr.alloc ?_ _ | refine Fr.drewN ?_ _) | (simp; done))) (by simp)) (HI2.out.fr (X := [w.heap.size]) H.out (by repeat' (first | (with_reducible first | exact Fr.refl _ _ | refine Fr.setCell ?_ (Or.inl ?_) _ | refine Fr.alloc ?_ _ | refine Fr.drewN ?_ _) | (simp; done))) (by simp)) ⟨[.int .i64 1, .string ⟨#[]⟩, .string ⟨#[]⟩, .string ⟨#[]⟩, .slice none 0 0, .int .i64 (-(x2 : Int)), .slice none 0 0, .int .i64 0], rfl, rep_int.2 ⟨_, rfl, rep_str.2 ⟨_, rfl, rep_str.2 ⟨_, rfl, rep_str.2 ⟨_, rfl, rep_sl.2 ⟨_, _, rfl, RowV.nil _ _ _ _, rep_int.2 ⟨_, rfl, rep_sl.2 ⟨_, _, rfl, RowV.nil _ _ _ _, rep_int.2 ⟨_, rfl, rep_nil.2 rfl⟩⟩⟩⟩⟩⟩⟩⟩⟩
  ·go_wp2_with fail
   exact ⟨rfl, RP.bad (by simp only [Px.unplaced, bind, Px.Rd.bind, offset_res, if_true, if_false, Bool.false_eq_true, num_res, HNB.out, hq1.out, hq2.out]) (HF1.out.join (X := []) (Fr.trans (by repeat' (first | (with_reducible first | exact Fr.refl _ _ | refine Fr.setCell ?_ (Or.inl ?_) _ | refine Fr.alloc ?_ _ | refine Fr.drewN ?_ _) | (simp; done))) hf.wide) (by simp)) hi⟩
 ·clear hp
  have hT : Fr [c.R] w w1 := Fr.trans (by repeat' (first | (with_reducible first | exact Fr.refl _ _ | refine Fr.setCell ?_ (Or.inl ?_) _ | refine Fr.alloc ?_ _ | refine Fr.drewN ?_ _) | (simp; done))) hf.wide
  have HB1 : Hid (Blk w1 (w.heap.size) 69 #[.int .i64 0, .string ⟨#[]⟩, .string ⟨#[]⟩, .string ⟨#[]⟩, .slice none 0 0, .int .i64 0, .slice none 0 0, .int .i64 0]) := Lib.hid ((Blk.alloc (Blk.new w _ _) _).keep hf (by simp; omega))
  have HI1 := Lib.hid hi
  have HF1 := Lib.hid ((Fr.refl [c.R] w).join hT (by simp))
  have hz1 := hf.size
  try simp at hz1
  clear hT hf hi
  go_wp2_with fail
  refine (accept_any c ts [[110, 101, 119]] _ _ 1 (by exact HI1.out.fr (X := []) H.out (by repeat' (first | (with_reducible first | exact Fr.refl _ _ | refine Fr.setCell ?_ (Or.inl ?_) _ | refine Fr.alloc ?_ _ | refine Fr.drewN ?_ _) | (simp; done))) (by simp)) rfl (by exact Blk.new_at (by simp)) rfl (by decide)).mono ?_
  rintro e w3 hp
  rcases hp.accept with ⟨hq3, _, hf, hi, rfl⟩ | ⟨hq3, hf, hi, rfl⟩
  ·clear hp
   have hl3 := accept_pos hq3.out rfl
   have hT : Fr [c.R] w1 w3 := Fr.trans (by repeat' (first | (with_reducible first | exact Fr.refl _ _ | refine Fr.setCell ?_ (Or.inl ?_) _ | refine Fr.alloc ?_ _ | refine Fr.drewN ?_ _) | (simp; done))) hf.wide
   have HB3 : Hid (Blk w3 (w.heap.size) 69 #[.int .i64 0, .string ⟨#[]⟩, .string ⟨#[]⟩, .string ⟨#[]⟩, .slice none 0 0, .int .i64 0, .slice none 0 0, .int .i64 0]) := Lib.hid (HB1.out.keep hT (by simp; omega))
   have HI3 := Lib.hid hi
   have HF3 := Lib.hid (HF1.out.join hT (by simp))
   have hz3 := hf.size
   try simp at hz3
   clear hT hf hi
   go_wp2_with fail
   refine (newValue_any c ts.tail _ (by exact HI3.out.fr (X := []) H.out (by repeat' (first | (with_reducible first | exact Fr.refl _ _ | refine Fr.setCell ?_ (Or.inl ?_) _ | refine Fr.alloc ?_ _ | refine Fr.drewN ?_ _) | (simp; done))) (by simp))).mono ?_
   rintro e w4 hp
   rcases hp.cases with ⟨x4, ts4, v4, hq4, hf, hi, rfl, hv⟩ | ⟨ts4, hq4, hf, hi, rfl⟩
   ·clear hp
    obtain ⟨cs, rfl, hrep⟩ := hv
    obtain ⟨y4_0, y4_1, y4_2, y4_3, y4_4, y4_5, y4_6, y4_7, rfl⟩ := cells_8 (hrep.len.trans (len_exprQ x4))
    obtain ⟨i4_0, rfl⟩ := hrep.kind 0 rfl (kind_exprQ x4 0 rfl)
    obtain ⟨s4_1, rfl⟩ := hrep.kind 1 rfl (kind_exprQ x4 1 rfl)
    obtain ⟨s4_2, rfl⟩ := hrep.kind 2 rfl (kind_exprQ x4 2 rfl)
    obtain ⟨s4_3, rfl⟩ := hrep.kind 3 rfl (kind_exprQ x4 3 rfl)
    obtain ⟨p4_4, n4_4, c4_4, rfl⟩ := hrep.kind 4 rfl (kind_exprQ x4 4 rfl)
    obtain ⟨i4_5, rfl⟩ := hrep.kind 5 rfl (kind_exprQ x4 5 rfl)
    obtain ⟨p4_6, n4_6, c4_6, rfl⟩ := hrep.kind 6 rfl (kind_exprQ x4 6 rfl)
    obtain ⟨i4_7, rfl⟩ := hrep.kind 7 rfl (kind_exprQ x4 7 rfl)
    have hV4 : Rep w4 (fun k => w.heap.size + 1 ≤ k) _ _ := hrep.mono (fun k hk _ => ⟨by (try simp at hk); omega, rfl⟩)
    have hT : Fr [c.R] w3 w4 := Fr.trans (by repeat' (first | (with_reducible first | exact Fr.refl _ _ | refine Fr.setCell ?_ (Or.inl ?_) _ | refine Fr.alloc ?_ _ | refine Fr.drewN ?_ _) | (simp; done))) hf.wide
    have HB4 : Hid (Blk w4 (w.heap.size) 69 #[.int .i64 0, .string ⟨#[]⟩, .string ⟨#[]⟩, .string ⟨#[]⟩, .slice none 0 0, .int .i64 0, .slice none 0 0, .int .i64 0]) := Lib.hid (HB3.out.keep hT (by simp; omega))
    have HI4 := Lib.hid hi
    have HF4 := Lib.hid (HF3.out.join hT (by simp))
    have hz4 := hf.size
    try simp at hz4
    have HV4 := Lib.hid hV4
    have hl4 : ts4.length ≤ ts.tail.length := (shr_newValue).ok hq4.out
    clear hT hf hi hV4 hrep
    have hlB : w.heap.size < w4.heap.size := by omega
    have b0 : w4.cell? ⟨w.heap.size, 0, none⟩ = some (.int .i64 0) := HB4.out.cell 0
    have b1 : w4.cell? ⟨w.heap.size, 1, none⟩ = some (.string ⟨#[]⟩) := HB4.out.cell 1
    have b2 : w4.cell? ⟨w.heap.size, 2, none⟩ = some (.string ⟨#[]⟩) := HB4.out.cell 2
    have b3 : w4.cell? ⟨w.heap.size, 3, none⟩ = some (.string ⟨#[]⟩) := HB4.out.cell 3
    have b4 : w4.cell? ⟨w.heap.size, 4, none⟩ = some (.slice none 0 0) := HB4.out.cell 4
    have b5 : w4.cell? ⟨w.heap.size, 5, none⟩ = some (.int .i64 0) := HB4.out.cell 5
    have b6 : w4.cell? ⟨w.heap.size, 6, none⟩ = some (.slice none 0 0) := HB4.out.cell 6
    have b7 : w4.cell? ⟨w.heap.size, 7, none⟩ = some (.int .i64 0) := HB4.out.cell 7
    have g0 : w4.frozen? ⟨w.heap.size, 0, none⟩ = false := HB4.out.frozen 0
    have g1 : w4.frozen? ⟨w.heap.size, 1, none⟩ = false := HB4.out.frozen 1
    have g2 : w4.frozen? ⟨w.heap.size, 2, none⟩ = false := HB4.out.frozen 2
    have g3 : w4.frozen? ⟨w.heap.size, 3, none⟩ = false := HB4.out.frozen 3
    have g4 : w4.frozen? ⟨w.heap.size, 4, none⟩ = false := HB4.out.frozen 4
    have g5 : w4.frozen? ⟨w.heap.size, 5, none⟩ = false := HB4.out.frozen 5
    have g6 : w4.frozen? ⟨w.heap.size, 6, none⟩ = false := HB4.out.frozen 6
    have g7 : w4.frozen? ⟨w.heap.size, 7, none⟩ = false := HB4.out.frozen 7
    go_wp2_with fail
    refine bodyPost_ret (v := .agg #[.int .i64 i4_0, .string s4_1, .string s4_2, .string s4_3, .slice p4_4 n4_4 c4_4, .int .i64 i4_5, .slice p4_6 n4_6 c4_6, .int .i64 i4_7]) (by simp [results, Tryz.results231, go_sem, hlB, b0, b1, b2, b3, b4, b5, b6, b7, g0, g1, g2, g3, g4, g5, g6, g7]) rfl ?_
    clear hlB b0 b1 b2 b3 b4 b5 b6 b7 g0 g1 g2 g3 g4 g5 g6 g7
    exact RP.ok (by simp only [Px.unplaced, bind, Px.Rd.bind, offset_res, if_true, if_false, Bool.false_eq_true, num_res, HNB.out, hq1.out, hq3.out, hq4.out] <;> rfl) (HF4.out.join (X := [w.heap.size]) (by repeat' (first | (with_reducible first | exact Fr.refl _ _ | refine Fr.setCell ?_ (Or.inl ?_) _ | refine Fr.alloc ?_ _ | refine Fr.drewN ?_ _) | (simp; done))) (by simp)) (HI4.out.fr (X := [w.heap.size]) H.out (by repeat' (first | (with_reducible first | exact Fr.refl _ _ | refine Fr.setCell ?_ (Or.inl ?_) _ | refine Fr.alloc ?_ _ | refine Fr.drewN ?_ _) | (simp; done))) (by simp)) ⟨[.int .i64 i4_0, .string s4_1, .string s4_2, .string s4_3, .slice p4_4 n4_4 c4_4, .int .i64 i4_5, .slice p4_6 n4_6 c4_6, .int .i64 i4_7], rfl, (rep_own (b := w.heap.size) HV4.out (X := [w.heap.size]) (by repeat' (first | (with_reducible first | exact Fr.refl _ _ | refine Fr.setCell ?_ (Or.inl ?_) _ | refine Fr.alloc ?_ _ | refine Fr.drewN ?_ _) | (simp; done))) (by first | omega | (simp; done) | (simp; omega)) (by first | omega | (simp; done) | (simp; omega)))⟩
   ·go_wp2_with fail
    exact ⟨rfl, RP.bad (by simp only [Px.unplaced, bind, Px.Rd.bind, offset_res, if_true, if_false, Bool.false_eq_true, num_res, HNB.out, hq1.out, hq3.out, hq4.out]) (HF3.out.join (X := []) (Fr.trans (by repeat' (first | (with_reducible first | exact Fr.refl _ _ | refine Fr.setCell ?_ (Or.inl ?_) _ | refine Fr.alloc ?_ _ | refine Fr.drewN ?_ _) | (simp; done))) hf.wide) (by simp)) hi⟩
  ·clear hp
   have hT : Fr [c.R] w1 w3 := Fr.trans (by repeat' (first | (with_reducible first | exact Fr.refl _ _ | refine Fr.setCell ?_ (Or.inl ?_) _ | refine Fr.alloc ?_ _ | refine Fr.drewN ?_ _) | (simp; done))) hf.wide
   have HB3 : Hid (Blk w3 (w.heap.size) 69 #[.int .i64 0, .string ⟨#[]⟩, .string ⟨#[]⟩, .string ⟨#[]⟩, .slice none 0 0, .int .i64 0, .slice none 0 0, .int .i64 0]) := Lib.hid (HB1.out.keep hT (by simp; omega))
   have HI3 := Lib.hid hi
   have HF3 := Lib.hid (HF1.out.join hT (by simp))
   have hz3 := hf.size
   try simp at hz3
   clear hT hf hi
   go_wp2_with fail
   refine (accept_any c ts [[98, 111, 120]] _ _ 1 (by exact HI3.out.fr (X := []) H.out (by repeat' (first | (with_reducible first | exact Fr.refl _ _ | refine Fr.setCell ?_ (Or.inl ?_) _ | refine Fr.alloc ?_ _ | refine Fr.drewN ?_ _) | (simp; done))) (by simp)) rfl (by exact Blk.new_at (by simp)) rfl (by decide)).mono ?_
   rintro e w5 hp
   rcases hp.accept with ⟨hq5, _, hf, hi, rfl⟩ | ⟨hq5, hf, hi, rfl⟩
   ·clear hp
    have hl5 := accept_pos hq5.out rfl
    have hT : Fr [c.R] w3 w5 := Fr.trans (by repeat' (first | (with_reducible first | exact Fr.refl _ _ | refine Fr.setCell ?_ (Or.inl ?_) _ | refine Fr.alloc ?_ _ | refine Fr.drewN ?_ _) | (simp; done))) hf.wide
    have HB5 : Hid (Blk w5 (w.heap.size) 69 #[.int .i64 0, .string ⟨#[]⟩, .string ⟨#[]⟩, .string ⟨#[]⟩, .slice none 0 0, .int .i64 0, .slice none 0 0, .int .i64 0]) := Lib.hid (HB3.out.keep hT (by simp; omega))
    have HI5 := Lib.hid hi
    have HF5 := Lib.hid (HF3.out.join hT (by simp))
    have hz5 := hf.size
    try simp at hz5
    clear hT hf hi
    go_wp2_with fail
    refine (operation_at c ts.tail _ (by exact HI5.out.fr (X := []) H.out (by repeat' (first | (with_reducible first | exact Fr.refl _ _ | refine Fr.setCell ?_ (Or.inl ?_) _ | refine Fr.alloc ?_ _ | refine Fr.drewN ?_ _) | (simp; done))) (by simp)) _ _ 5 1 (by rfl) (by rfl) (by decide)).mono ?_
    rintro e w6 hp
    rcases hp.cases with ⟨x6, ts6, v6, hq6, hf, hi, rfl, hv⟩ | ⟨ts6, hq6, hf, hi, rfl⟩
    ·clear hp
     obtain ⟨cs, rfl, hrep⟩ := hv
     obtain ⟨y6_0, y6_1, y6_2, y6_3, y6_4, y6_5, y6_6, y6_7, rfl⟩ := cells_8 (hrep.len.trans (len_exprQ x6))
     obtain ⟨i6_0, rfl⟩ := hrep.kind 0 rfl (kind_exprQ x6 0 rfl)
     obtain ⟨s6_1, rfl⟩ := hrep.kind 1 rfl (kind_exprQ x6 1 rfl)
     obtain ⟨s6_2, rfl⟩ := hrep.kind 2 rfl (kind_exprQ x6 2 rfl)
     obtain ⟨s6_3, rfl⟩ := hrep.kind 3 rfl (kind_exprQ x6 3 rfl)
     obtain ⟨p6_4, n6_4, c6_4, rfl⟩ := hrep.kind 4 rfl (kind_exprQ x6 4 rfl)
     obtain ⟨i6_5, rfl⟩ := hrep.kind 5 rfl (kind_exprQ x6 5 rfl)
     obtain ⟨p6_6, n6_6, c6_6, rfl⟩ := hrep.kind 6 rfl (kind_exprQ x6 6 rfl)
     obtain ⟨i6_7, rfl⟩ := hrep.kind 7 rfl (kind_exprQ x6 7 rfl)
     have hV6 : Rep w6 (fun k => w.heap.size + 1 ≤ k) _ _ := hrep.mono (fun k hk _ => ⟨by (try simp at hk); omega, rfl⟩)
     have hT : Fr [c.R] w5 w6 := Fr.trans (by repeat' (first | (with_reducible first | exact Fr.refl _ _ | refine Fr.setCell ?_ (Or.inl ?_) _ | refine Fr.alloc ?_ _ | refine Fr.drewN ?_ _) | (simp; done))) hf.wide
     have HB6 : Hid (Blk w6 (w.heap.size) 69 #[.int .i64 0, .string ⟨#[]⟩, .string ⟨#[]⟩, .string ⟨#[]⟩, .slice none 0 0, .int .i64 0, .slice none 0 0, .int .i64 0]) := Lib.hid (HB5.out.keep hT (by simp; omega))
     have HI6 := Lib.hid hi
     have HF6 := Lib.hid (HF5.out.join hT (by simp))
     have hz6 := hf.size
     try simp at hz6
     have HV6 := Lib.hid hV6
     have hl6 : ts6.length ≤ ts.tail.length := (shr_operation _ _).ok hq6.out
     clear hT hf hi hV6 hrep
     have hlB : w.heap.size < w6.heap.size := by omega
     have b0 : w6.cell? ⟨w.heap.size, 0, none⟩ = some (.int .i64 0) := HB6.out.cell 0
     have b1 : w6.cell? ⟨w.heap.size, 1, none⟩ = some (.string ⟨#[]⟩) := HB6.out.cell 1
     have b2 : w6.cell? ⟨w.heap.size, 2, none⟩ = some (.string ⟨#[]⟩) := HB6.out.cell 2
     have b3 : w6.cell? ⟨w.heap.size, 3, none⟩ = some (.string ⟨#[]⟩) := HB6.out.cell 3
     have b4 : w6.cell? ⟨w.heap.size, 4, none⟩ = some (.slice none 0 0) := HB6.out.cell 4
     have b5 : w6.cell? ⟨w.heap.size, 5, none⟩ = some (.int .i64 0) := HB6.out.cell 5
     have b6 : w6.cell? ⟨w.heap.size, 6, none⟩ = some (.slice none 0 0) := HB6.out.cell 6
     have b7 : w6.cell? ⟨w.heap.size, 7, none⟩ = some (.int .i64 0) := HB6.out.cell 7
     have g0 : w6.frozen? ⟨w.heap.size, 0, none⟩ = false := HB6.out.frozen 0
     have g1 : w6.frozen? ⟨w.heap.size, 1, none⟩ = false := HB6.out.frozen 1
     have g2 : w6.frozen? ⟨w.heap.size, 2, none⟩ = false := HB6.out.frozen 2
     have g3 : w6.frozen? ⟨w.heap.size, 3, none⟩ = false := HB6.out.frozen 3
     have g4 : w6.frozen? ⟨w.heap.size, 4, none⟩ = false := HB6.out.frozen 4
     have g5 : w6.frozen? ⟨w.heap.size, 5, none⟩ = false := HB6.out.frozen 5
     have g6 : w6.frozen? ⟨w.heap.size, 6, none⟩ = false := HB6.out.frozen 6
     have g7 : w6.frozen? ⟨w.heap.size, 7, none⟩ = false := HB6.out.frozen 7
     go_wp2_with fail
     refine bodyPost_ret (v := .agg #[.int .i64 i6_0, .string s6_1, .string s6_2, .string s6_3, .slice p6_4 n6_4 c6_4, .int .i64 i6_5, .slice p6_6 n6_6 c6_6, .int .i64 i6_7]) (by simp [results, Tryz.results231, go_sem, hlB, b0, b1, b2, b3, b4, b5, b6, b7, g0, g1, g2, g3, g4, g5, g6, g7]) rfl ?_
     clear hlB b0 b1 b2 b3 b4 b5 b6 b7 g0 g1 g2 g3 g4 g5 g6 g7
     exact RP.ok (by simp only [Px.unplaced, bind, Px.Rd.bind, offset_res, if_true, if_false, Bool.false_eq_true, num_res, HNB.out, hq1.out, hq3.out, hq5.out, hq6.out] <;> rfl) (HF6.out.join (X := [w.heap.size]) (by repeat' (first | (with_reducible first | exact Fr.refl _ _ | refine Fr.setCell ?_ (Or.inl ?_) _ | refine Fr.alloc ?_ _ | refine Fr.drewN ?_ _) | (simp; done))) (by simp)) (HI6.out.fr (X := [w.heap.size]) H.out (by repeat' (first | (with_reducible first | exact Fr.refl _ _ | refine Fr.setCell ?_ (Or.inl ?_) _ | refine Fr.alloc ?_ _ | refine Fr.drewN ?_ _) | (simp; done))) (by simp)) ⟨[.int .i64 i6_0, .string s6_1, .string s6_2, .string s6_3, .slice p6_4 n6_4 c6_4, .int .i64 i6_5, .slice p6_6 n6_6 c6_6, .int .i64 i6_7], rfl, (rep_own (b := w.heap.size) HV6.out (X := [w.heap.size]) (by repeat' (first | (with_reducible first | exact Fr.refl _ _ | refine Fr.setCell ?_ (Or.inl ?_) _ | refine Fr.alloc ?_ _ | refine Fr.drewN ?_ _) | (simp; done))) (by first | omega | (simp; done) | (simp; omega)) (by first | omega | (simp; done) | (simp; omega)))⟩
    ·go_wp2_with fail
     exact ⟨rfl, RP.bad (by simp only [Px.unplaced, bind, Px.Rd.bind, offset_res, if_true, if_false, Bool.false_eq_true, num_res, HNB.out, hq1.out, hq3.out, hq5.out, hq6.out]) (HF5.out.join (X := []) (Fr.trans (by repeat' (first | (with_reducible first | exact Fr.refl _ _ | refine Fr.setCell ?_ (Or.inl ?_) _ | refine Fr.alloc ?_ _ | refine Fr.drewN ?_ _) | (simp; done))) hf.wide) (by simp)) hi⟩
   ·clear hp
    have hT : Fr [c.R] w3 w5 := Fr.trans (by repeat' (first | (with_reducible first | exact Fr.refl _ _ | refine Fr.setCell ?_ (Or.inl ?_) _ | refine Fr.alloc ?_ _ | refine Fr.drewN ?_ _) | (simp; done))) hf.wide
    have HB5 : Hid (Blk w5 (w.heap.size) 69 #[.int .i64 0, .string ⟨#[]⟩, .string ⟨#[]⟩, .string ⟨#[]⟩, .slice none 0 0, .int .i64 0, .slice none 0 0, .int .i64 0]) := Lib.hid (HB3.out.keep hT (by simp; omega))
    have HI5 := Lib.hid hi
    have HF5 := Lib.hid (HF3.out.join hT (by simp))
    have hz5 := hf.size
    try simp at hz5
    clear hT hf hi
    go_wp2_with fail
    refine (accept_any c ts [[117, 110, 98, 111, 120]] _ _ 1 (by exact HI5.out.fr (X := []) H.out (by repeat' (first | (with_reducible first | exact Fr.refl _ _ | refine Fr.setCell ?_ (Or.inl ?_) _ | refine Fr.alloc ?_ _ | refine Fr.drewN ?_ _) | (simp; done))) (by simp)) rfl (by exact Blk.new_at (by simp)) rfl (by decide)).mono ?_
    rintro e w7 hp
    rcases hp.accept with ⟨hq7, _, hf, hi, rfl⟩ | ⟨hq7, hf, hi, rfl⟩
    ·clear hp
     have hl7 := accept_pos hq7.out rfl
     have hT : Fr [c.R] w5 w7 := Fr.trans (by repeat' (first | (with_reducible first | exact Fr.refl _ _ | refine Fr.setCell ?_ (Or.inl ?_) _ | refine Fr.alloc ?_ _ | refine Fr.drewN ?_ _) | (simp; done))) hf.wide
     have HB7 : Hid (Blk w7 (w.heap.size) 69 #[.int .i64 0, .string ⟨#[]⟩, .string ⟨#[]⟩, .string ⟨#[]⟩, .slice none 0 0, .int .i64 0, .slice none 0 0, .int .i64 0]) := Lib.hid (HB5.out.keep hT (by simp; omega))
     have HI7 := Lib.hid hi
     have HF7 := Lib.hid (HF5.out.join hT (by simp))
     have hz7 := hf.size
     try simp at hz7
     clear hT hf hi
     go_wp2_with fail
     refine (operation_at c ts.tail _ (by exact HI7.out.fr (X := []) H.out (by repeat' (first | (with_reducible first | exact Fr.refl _ _ | refine Fr.setCell ?_ (Or.inl ?_) _ | refine Fr.alloc ?_ _ | refine Fr.drewN ?_ _) | (simp; done))) (by simp)) _ _ 6 1 (by rfl) (by rfl) (by decide)).mono ?_
     rintro e w8 hp
     rcases hp.cases with ⟨x8, ts8, v8, hq8, hf, hi, rfl, hv⟩ | ⟨ts8, hq8, hf, hi, rfl⟩
     ·clear hp
      obtain ⟨cs, rfl, hrep⟩ := hv
      obtain ⟨y8_0, y8_1, y8_2, y8_3, y8_4, y8_5, y8_6, y8_7, rfl⟩ := cells_8 (hrep.len.trans (len_exprQ x8))
      obtain ⟨i8_0, rfl⟩ := hrep.kind 0 rfl (kind_exprQ x8 0 rfl)
      obtain ⟨s8_1, rfl⟩ := hrep.kind 1 rfl (kind_exprQ x8 1 rfl)
      obtain ⟨s8_2, rfl⟩ := hrep.kind 2 rfl (kind_exprQ x8 2 rfl)
      obtain ⟨s8_3, rfl⟩ := hrep.kind 3 rfl (kind_exprQ x8 3 rfl)
      obtain ⟨p8_4, n8_4, c8_4, rfl⟩ := hrep.kind 4 rfl (kind_exprQ x8 4 rfl)
      obtain ⟨i8_5, rfl⟩ := hrep.kind 5 rfl (kind_exprQ x8 5 rfl)
      obtain ⟨p8_6, n8_6, c8_6, rfl⟩ := hrep.kind 6 rfl (kind_exprQ x8 6 rfl)
      obtain ⟨i8_7, rfl⟩ := hrep.kind 7 rfl (kind_exprQ x8 7 rfl)
      have hV8 : Rep w8 (fun k => w.heap.size + 1 ≤ k) _ _ := hrep.mono (fun k hk _ => ⟨by (try simp at hk); omega, rfl⟩)
      have hT : Fr [c.R] w7 w8 := Fr.trans (by repeat' (first | (with_reducible first | exact Fr.refl _ _ | refine Fr.setCell ?_ (Or.inl ?_) _ | refine Fr.alloc ?_ _ | refine Fr.drewN ?_ _) | (simp; done))) hf.wide
      have HB8 : Hid (Blk w8 (w.heap.size) 69 #[.int .i64 0, .string ⟨#[]⟩, .string ⟨#[]⟩, .string ⟨#[]⟩, .slice none 0 0, .int .i64 0, .slice none 0 0, .int .i64 0]) := Lib.hid (HB7.out.keep hT (by simp; omega))
      have HI8 := Lib.hid hi
      have HF8 := Lib.hid (HF7.out.join hT (by simp))
      have hz8 := hf.size
      try simp at hz8
      have HV8 := Lib.hid hV8
      have hl8 : ts8.length ≤ ts.tail.length := (shr_operation _ _).ok hq8.out
      clear hT hf hi hV8 hrep
      have hlB : w.heap.size < w8.heap.size := by omega
      have b0 : w8.cell? ⟨w.heap.size, 0, none⟩ = some (.int .i64 0) := HB8.out.cell 0
      have b1 : w8.cell? ⟨w.heap.size, 1, none⟩ = some (.string ⟨#[]⟩) := HB8.out.cell 1
      have b2 : w8.cell? ⟨w.heap.size, 2, none⟩ = some (.string ⟨#[]⟩) := HB8.out.cell 2
      have b3 : w8.cell? ⟨w.heap.size, 3, none⟩ = some (.string ⟨#[]⟩) := HB8.out.cell 3
      have b4 : w8.cell? ⟨w.heap.size, 4, none⟩ = some (.slice none 0 0) := HB8.out.cell 4
      have b5 : w8.cell? ⟨w.heap.size, 5, none⟩ = some (.int .i64 0) := HB8.out.cell 5
      have b6 : w8.cell? ⟨w.heap.size, 6, none⟩ = some (.slice none 0 0) := HB8.out.cell 6
      have b7 : w8.cell? ⟨w.heap.size, 7, none⟩ = some (.int .i64 0) := HB8.out.cell 7
      have g0 : w8.frozen? ⟨w.heap.size, 0, none⟩ = false := HB8.out.frozen 0
      have g1 : w8.frozen? ⟨w.heap.size, 1, none⟩ = false := HB8.out.frozen 1
      have g2 : w8.frozen? ⟨w.heap.size, 2, none⟩ = false := HB8.out.frozen 2
      have g3 : w8.frozen? ⟨w.heap.size, 3, none⟩ = false := HB8.out.frozen 3
      have g4 : w8.frozen? ⟨w.heap.size, 4, none⟩ = false := HB8.out.frozen 4
      have g5 : w8.frozen? ⟨w.heap.size, 5, none⟩ = false := HB8.out.frozen 5
      have g6 : w8.frozen? ⟨w.heap.size, 6, none⟩ = false := HB8.out.frozen 6
      have g7 : w8.frozen? ⟨w.heap.size, 7, none⟩ = false := HB8.out.frozen 7
      go_wp2_with fail
      refine bodyPost_ret (v := .agg #[.int .i64 i8_0, .string s8_1, .string s8_2, .string s8_3, .slice p8_4 n8_4 c8_4, .int .i64 i8_5, .slice p8_6 n8_6 c8_6, .int .i64 i8_7]) (by simp [results, Tryz.results231, go_sem, hlB, b0, b1, b2, b3, b4, b5, b6, b7, g0, g1, g2, g3, g4, g5, g6, g7]) rfl ?_
      clear hlB b0 b1 b2 b3 b4 b5 b6 b7 g0 g1 g2 g3 g4 g5 g6 g7
      exact RP.ok (by simp only [Px.unplaced, bind, Px.Rd.bind, offset_res, if_true, if_false, Bool.false_eq_true, num_res, HNB.out, hq1.out, hq3.out, hq5.out, hq7.out, hq8.out] <;> rfl) (HF8.out.join (X := [w.heap.size]) (by repeat' (first | (with_reducible first | exact Fr.refl _ _ | refine Fr.setCell ?_ (Or.inl ?_) _ | refine Fr.alloc ?_ _ | refine Fr.drewN ?_ _) | (simp; done))) (by simp)) (HI8.out.fr (X := [w.heap.size]) H.out (by repeat' (first | (with_reducible first | exact Fr.refl _ _ | refine Fr.setCell ?_ (Or.inl ?_) _ | refine Fr.alloc ?_ _ | refine Fr.drewN ?_ _) | (simp; done))) (by simp)) ⟨[.int .i64 i8_0, .string s8_1, .string s8_2, .string s8_3, .slice p8_4 n8_4 c8_4, .int .i64 i8_5, .slice p8_6 n8_6 c8_6, .int .i64 i8_7], rfl, (rep_own (b := w.heap.size) HV8.out (X := [w.heap.size]) (by repeat' (first | (with_reducible first | exact Fr.refl _ _ | refine Fr.setCell ?_ (Or.inl ?_) _ | refine Fr.alloc ?_ _ | refine Fr.drewN ?_ _) | (simp; done))) (by first | omega | (simp; done) | (simp; omega)) (by first | omega | (simp; done) | (simp; omega)))⟩
     ·go_wp2_with fail
      exact ⟨rfl, RP.bad (by simp only [Px.unplaced, bind, Px.Rd.bind, offset_res, if_true, if_false, Bool.false_eq_true, num_res, HNB.out, hq1.out, hq3.out, hq5.out, hq7.out, hq8.out]) (HF7.out.join (X := []) (Fr.trans (by repeat' (first | (with_reducible first | exact Fr.refl _ _ | refine Fr.setCell ?_ (Or.inl ?_) _ | refine Fr.alloc ?_ _ | refine Fr.drewN ?_ _) | (simp; done))) hf.wide) (by simp)) hi⟩
    ·clear hp
     have hT : Fr [c.R] w5 w7 := Fr.trans (by repeat' (first | (with_reducible first | exact Fr.refl _ _ | refine Fr.setCell ?_ (Or.inl ?_) _ | refine Fr.alloc ?_ _ | refine Fr.drewN ?_ _) | (simp; done))) hf.wide
     have HB7 : Hid (Blk w7 (w.heap.size) 69 #[.int .i64 0, .string ⟨#[]⟩, .string ⟨#[]⟩, .string ⟨#[]⟩, .slice none 0 0, .int .i64 0, .slice none 0 0, .int .i64 0]) := Lib.hid (HB5.out.keep hT (by simp; omega))
     have HI7 := Lib.hid hi
     have HF7 := Lib.hid (HF5.out.join hT (by simp))
     have hz7 := hf.size
     try simp at hz7
     clear hT hf hi
     go_wp2_with fail
     refine (accept_any c ts [[38]] _ _ 1 (by exact HI7.out.fr (X := []) H.out (by repeat' (first | (with_reducible first | exact Fr.refl _ _ | refine Fr.setCell ?_ (Or.inl ?_) _ | refine Fr.alloc ?_ _ | refine Fr.drewN ?_ _) | (simp; done))) (by simp)) rfl (by exact Blk.new_at (by simp)) rfl (by decide)).mono ?_
     rintro e w9 hp
     rcases hp.accept with ⟨hq9, _, hf, hi, rfl⟩ | ⟨hq9, hf, hi, rfl⟩
     ·clear hp
      have hl9 := accept_pos hq9.out rfl
      have hT : Fr [c.R] w7 w9 := Fr.trans (by repeat' (first | (with_reducible first | exact Fr.refl _ _ | refine Fr.setCell ?_ (Or.inl ?_) _ | refine Fr.alloc ?_ _ | refine Fr.drewN ?_ _) | (simp; done))) hf.wide
      have HB9 : Hid (Blk w9 (w.heap.size) 69 #[.int .i64 0, .string ⟨#[]⟩, .string ⟨#[]⟩, .string ⟨#[]⟩, .slice none 0 0, .int .i64 0, .slice none 0 0, .int .i64 0]) := Lib.hid (HB7.out.keep hT (by simp; omega))
      have HI9 := Lib.hid hi
      have HF9 := Lib.hid (HF7.out.join hT (by simp))
      have hz9 := hf.size
      try simp at hz9
      clear hT hf hi
      go_wp2_with fail
      refine (reference_at c ts.tail _ (by exact HI9.out.fr (X := []) H.out (by repeat' (first | (with_reducible first | exact Fr.refl _ _ | refine Fr.setCell ?_ (Or.inl ?_) _ | refine Fr.alloc ?_ _ | refine Fr.drewN ?_ _) | (simp; done))) (by simp)) _ _ _ 7 9 11 (by rfl) (by rfl) (by rfl)).mono ?_
      rintro e w10 hp
      rcases hp.cases with ⟨x10, ts10, v10, hq10, hf, hi, rfl, hv⟩ | ⟨ts10, hq10, hf, hi, rfl⟩
      ·clear hp
       obtain ⟨cs, rfl, hrep⟩ := hv
       obtain ⟨y10_0, y10_1, y10_2, y10_3, y10_4, y10_5, y10_6, y10_7, rfl⟩ := cells_8 (hrep.len.trans (len_exprQ x10))
       obtain ⟨i10_0, rfl⟩ := hrep.kind 0 rfl (kind_exprQ x10 0 rfl)
       obtain ⟨s10_1, rfl⟩ := hrep.kind 1 rfl (kind_exprQ x10 1 rfl)
       obtain ⟨s10_2, rfl⟩ := hrep.kind 2 rfl (kind_exprQ x10 2 rfl)
       obtain ⟨s10_3, rfl⟩ := hrep.kind 3 rfl (kind_exprQ x10 3 rfl)
       obtain ⟨p10_4, n10_4, c10_4, rfl⟩ := hrep.kind 4 rfl (kind_exprQ x10 4 rfl)
       obtain ⟨i10_5, rfl⟩ := hrep.kind 5 rfl (kind_exprQ x10 5 rfl)
       obtain ⟨p10_6, n10_6, c10_6, rfl⟩ := hrep.kind 6 rfl (kind_exprQ x10 6 rfl)
       obtain ⟨i10_7, rfl⟩ := hrep.kind 7 rfl (kind_exprQ x10 7 rfl)
       have hV10 : Rep w10 (fun k => w.heap.size + 1 ≤ k) _ _ := hrep.mono (fun k hk _ => ⟨by (try simp at hk); omega, rfl⟩)
       have hT : Fr [c.R] w9 w10 := Fr.trans (by repeat' (first | (with_reducible first | exact Fr.refl _ _ | refine Fr.setCell ?_ (Or.inl ?_) _ | refine Fr.alloc ?_ _ | refine Fr.drewN ?_ _) | (simp; done))) hf.wide
       have HB10 : Hid (Blk w10 (w.heap.size) 69 #[.int .i64 0, .string ⟨#[]⟩, .string ⟨#[]⟩, .string ⟨#[]⟩, .slice none 0 0, .int .i64 0, .slice none 0 0, .int .i64 0]) := Lib.hid (HB9.out.keep hT (by simp; omega))
       have HI10 := Lib.hid hi
       have HF10 := Lib.hid (HF9.out.join hT (by simp))
       have hz10 := hf.size
       try simp at hz10
       have HV10 := Lib.hid hV10
       have hl10 : ts10.length ≤ ts.tail.length := (shr_reference _ _ _).ok hq10.out
       clear hT hf hi hV10 hrep
       have hlB : w.heap.size < w10.heap.size := by omega
       have b0 : w10.cell? ⟨w.heap.size, 0, none⟩ = some (.int .i64 0) := HB10.out.cell 0
       have b1 : w10.cell? ⟨w.heap.size, 1, none⟩ = some (.string ⟨#[]⟩) := HB10.out.cell 1
       have b2 : w10.cell? ⟨w.heap.size, 2, none⟩ = some (.string ⟨#[]⟩) := HB10.out.cell 2
       have b3 : w10.cell? ⟨w.heap.size, 3, none⟩ = some (.string ⟨#[]⟩) := HB10.out.cell 3
       have b4 : w10.cell? ⟨w.heap.size, 4, none⟩ = some (.slice none 0 0) := HB10.out.cell 4
       have b5 : w10.cell? ⟨w.heap.size, 5, none⟩ = some (.int .i64 0) := HB10.out.cell 5
       have b6 : w10.cell? ⟨w.heap.size, 6, none⟩ = some (.slice none 0 0) := HB10.out.cell 6
       have b7 : w10.cell? ⟨w.heap.size, 7, none⟩ = some (.int .i64 0) := HB10.out.cell 7
       have g0 : w10.frozen? ⟨w.heap.size, 0, none⟩ = false := HB10.out.frozen 0
       have g1 : w10.frozen? ⟨w.heap.size, 1, none⟩ = false := HB10.out.frozen 1
       have g2 : w10.frozen? ⟨w.heap.size, 2, none⟩ = false := HB10.out.frozen 2
       have g3 : w10.frozen? ⟨w.heap.size, 3, none⟩ = false := HB10.out.frozen 3
       have g4 : w10.frozen? ⟨w.heap.size, 4, none⟩ = false := HB10.out.frozen 4
       have g5 : w10.frozen? ⟨w.heap.size, 5, none⟩ = false := HB10.out.frozen 5
       have g6 : w10.frozen? ⟨w.heap.size, 6, none⟩ = false := HB10.out.frozen 6
       have g7 : w10.frozen? ⟨w.heap.size, 7, none⟩ = false := HB10.out.frozen 7
       go_wp2_with fail
       refine bodyPost_ret (v := .agg #[.int .i64 i10_0, .string s10_1, .string s10_2, .string s10_3, .slice p10_4 n10_4 c10_4, .int .i64 i10_5, .slice p10_6 n10_6 c10_6, .int .i64 i10_7]) (by simp [results, Tryz.results231, go_sem, hlB, b0, b1, b2, b3, b4, b5, b6, b7, g0, g1, g2, g3, g4, g5, g6, g7]) rfl ?_
       clear hlB b0 b1 b2 b3 b4 b5 b6 b7 g0 g1 g2 g3 g4 g5 g6 g7
       exact RP.ok (by simp only [Px.unplaced, bind, Px.Rd.bind, offset_res, if_true, if_false, Bool.false_eq_true, num_res, HNB.out, hq1.out, hq3.out, hq5.out, hq7.out, hq9.out, hq10.out] <;> rfl) (HF10.out.join (X := [w.heap.size]) (by repeat' (first | (with_reducible first | exact Fr.refl _ _ | refine Fr.setCell ?_ (Or.inl ?_) _ | refine Fr.alloc ?_ _ | refine Fr.drewN ?_ _) | (simp; done))) (by simp)) (HI10.out.fr (X := [w.heap.size]) H.out (by repeat' (first | (with_reducible first | exact Fr.refl _ _ | refine Fr.setCell ?_ (Or.inl ?_) _ | refine Fr.alloc ?_ _ | refine Fr.drewN ?_ _) | (simp; done))) (by simp)) ⟨[.int .i64 i10_0, .string s10_1, .string s10_2, .string s10_3, .slice p10_4 n10_4 c10_4, .int .i64 i10_5, .slice p10_6 n10_6 c10_6, .int .i64 i10_7], rfl, (rep_own (b := w.heap.size) HV10.out (X := [w.heap.size]) (by repeat' (first | (with_reducible first | exact Fr.refl _ _ | refine Fr.setCell ?_ (Or.inl ?_) _ | refine Fr.alloc ?_ _ | refine Fr.drewN ?_ _) | (simp; done))) (by first | omega | (simp; done) | (simp; omega)) (by first | omega | (simp; done) | (simp; omega)))⟩
      ·go_wp2_with fail
       exact ⟨rfl, RP.bad (by simp only [Px.unplaced, bind, Px.Rd.bind, offset_res, if_true, if_false, Bool.false_eq_true, num_res, HNB.out, hq1.out, hq3.out, hq5.out, hq7.out, hq9.out, hq10.out]) (HF9.out.join (X := []) (Fr.trans (by repeat' (first | (with_reducible first | exact Fr.refl _ _ | refine Fr.setCell ?_ (Or.inl ?_) _ | refine Fr.alloc ?_ _ | refine Fr.drewN ?_ _) | (simp; done))) hf.wide) (by simp)) hi⟩
     ·clear hp
      have hT : Fr [c.R] w7 w9 := Fr.trans (by repeat' (first | (with_reducible first | exact Fr.refl _ _ | refine Fr.setCell ?_ (Or.inl ?_) _ | refine Fr.alloc ?_ _ | refine Fr.drewN ?_ _) | (simp; done))) hf.wide
      have HB9 : Hid (Blk w9 (w.heap.size) 69 #[.int .i64 0, .string ⟨#[]⟩, .string ⟨#[]⟩, .string ⟨#[]⟩, .slice none 0 0, .int .i64 0, .slice none 0 0, .int .i64 0]) := Lib.hid (HB7.out.keep hT (by simp; omega))
      have HI9 := Lib.hid hi
      have HF9 := Lib.hid (HF7.out.join hT (by simp))
      have hz9 := hf.size
      try simp at hz9
      clear hT hf hi
      go_wp2_with fail
      refine (accept_any c ts [[38, 33]] _ _ 1 (by exact HI9.out.fr (X := []) H.out (by repeat' (first | (with_reducible first | exact Fr.refl _ _ | refine Fr.setCell ?_ (Or.inl ?_) _ | refine Fr.alloc ?_ _ | refine Fr.drewN ?_ _) | (simp; done))) (by simp)) rfl (by exact Blk.new_at (by simp)) rfl (by decide)).mono ?_
      rintro e w11 hp
      rcases hp.accept with ⟨hq11, _, hf, hi, rfl⟩ | ⟨hq11, hf, hi, rfl⟩
      ·clear hp
       have hl11 := accept_pos hq11.out rfl
       have hT : Fr [c.R] w9 w11 := Fr.trans (by repeat' (first | (with_reducible first | exact Fr.refl _ _ | refine Fr.setCell ?_ (Or.inl ?_) _ | refine Fr.alloc ?_ _ | refine Fr.drewN ?_ _) | (simp; done))) hf.wide
       have HB11 : Hid (Blk w11 (w.heap.size) 69 #[.int .i64 0, .string ⟨#[]⟩, .string ⟨#[]⟩, .string ⟨#[]⟩, .slice none 0 0, .int .i64 0, .slice none 0 0, .int .i64 0]) := Lib.hid (HB9.out.keep hT (by simp; omega))
       have HI11 := Lib.hid hi
       have HF11 := Lib.hid (HF9.out.join hT (by simp))
       have hz11 := hf.size
       try simp at hz11
       clear hT hf hi
       go_wp2_with fail
       refine (reference_at c ts.tail _ (by exact HI11.out.fr (X := []) H.out (by repeat' (first | (with_reducible first | exact Fr.refl _ _ | refine Fr.setCell ?_ (Or.inl ?_) _ | refine Fr.alloc ?_ _ | refine Fr.drewN ?_ _) | (simp; done))) (by simp)) _ _ _ 8 10 12 (by rfl) (by rfl) (by rfl)).mono ?_
       rintro e w12 hp
       rcases hp.cases with ⟨x12, ts12, v12, hq12, hf, hi, rfl, hv⟩ | ⟨ts12, hq12, hf, hi, rfl⟩
       ·clear hp
        obtain ⟨cs, rfl, hrep⟩ := hv
        obtain ⟨y12_0, y12_1, y12_2, y12_3, y12_4, y12_5, y12_6, y12_7, rfl⟩ := cells_8 (hrep.len.trans (len_exprQ x12))
        obtain ⟨i12_0, rfl⟩ := hrep.kind 0 rfl (kind_exprQ x12 0 rfl)
        obtain ⟨s12_1, rfl⟩ := hrep.kind 1 rfl (kind_exprQ x12 1 rfl)
        obtain ⟨s12_2, rfl⟩ := hrep.kind 2 rfl (kind_exprQ x12 2 rfl)
        obtain ⟨s12_3, rfl⟩ := hrep.kind 3 rfl (kind_exprQ x12 3 rfl)
        obtain ⟨p12_4, n12_4, c12_4, rfl⟩ := hrep.kind 4 rfl (kind_exprQ x12 4 rfl)
        obtain ⟨i12_5, rfl⟩ := hrep.kind 5 rfl (kind_exprQ x12 5 rfl)
        obtain ⟨p12_6, n12_6, c12_6, rfl⟩ := hrep.kind 6 rfl (kind_exprQ x12 6 rfl)
        obtain ⟨i12_7, rfl⟩ := hrep.kind 7 rfl (kind_exprQ x12 7 rfl)
        have hV12 : Rep w12 (fun k => w.heap.size + 1 ≤ k) _ _ := hrep.mono (fun k hk _ => ⟨by (try simp at hk); omega, rfl⟩)
        have hT : Fr [c.R] w11 w12 := Fr.trans (by repeat' (first | (with_reducible first | exact Fr.refl _ _ | refine Fr.setCell ?_ (Or.inl ?_) _ | refine Fr.alloc ?_ _ | refine Fr.drewN ?_ _) | (simp; done))) hf.wide
        have HB12 : Hid (Blk w12 (w.heap.size) 69 #[.int .i64 0, .string ⟨#[]⟩, .string ⟨#[]⟩, .string ⟨#[]⟩, .slice none 0 0, .int .i64 0, .slice none 0 0, .int .i64 0]) := Lib.hid (HB11.out.keep hT (by simp; omega))
        have HI12 := Lib.hid hi
        have HF12 := Lib.hid (HF11.out.join hT (by simp))
        have hz12 := hf.size
        try simp at hz12
        have HV12 := Lib.hid hV12
        have hl12 : ts12.length ≤ ts.tail.length := (shr_reference _ _ _).ok hq12.out
        clear hT hf hi hV12 hrep
        have hlB : w.heap.size < w12.heap.size := by omega
        have b0 : w12.cell? ⟨w.heap.size, 0, none⟩ = some (.int .i64 0) := HB12.out.cell 0
        have b1 : w12.cell? ⟨w.heap.size, 1, none⟩ = some (.string ⟨#[]⟩) := HB12.out.cell 1
        have b2 : w12.cell? ⟨w.heap.size, 2, none⟩ = some (.string ⟨#[]⟩) := HB12.out.cell 2
        have b3 : w12.cell? ⟨w.heap.size, 3, none⟩ = some (.string ⟨#[]⟩) := HB12.out.cell 3
        have b4 : w12.cell? ⟨w.heap.size, 4, none⟩ = some (.slice none 0 0) := HB12.out.cell 4
        have b5 : w12.cell? ⟨w.heap.size, 5, none⟩ = some (.int .i64 0) := HB12.out.cell 5
        have b6 : w12.cell? ⟨w.heap.size, 6, none⟩ = some (.slice none 0 0) := HB12.out.cell 6
        have b7 : w12.cell? ⟨w.heap.size, 7, none⟩ = some (.int .i64 0) := HB12.out.cell 7
        have g0 : w12.frozen? ⟨w.heap.size, 0, none⟩ = false := HB12.out.frozen 0
        have g1 : w12.frozen? ⟨w.heap.size, 1, none⟩ = false := HB12.out.frozen 1
        have g2 : w12.frozen? ⟨w.heap.size, 2, none⟩ = false := HB12.out.frozen 2
        have g3 : w12.frozen? ⟨w.heap.size, 3, none⟩ = false := HB12.out.frozen 3
        have g4 : w12.frozen? ⟨w.heap.size, 4, none⟩ = false := HB12.out.frozen 4
        have g5 : w12.frozen? ⟨w.heap.size, 5, none⟩ = false := HB12.out.frozen 5
        have g6 : w12.frozen? ⟨w.heap.size, 6, none⟩ = false := HB12.out.frozen 6
        have g7 : w12.frozen? ⟨w.heap.size, 7, none⟩ = false := HB12.out.frozen 7
        go_wp2_with fail
        refine bodyPost_ret (v := .agg #[.int .i64 i12_0, .string s12_1, .string s12_2, .string s12_3, .slice p12_4 n12_4 c12_4, .int .i64 i12_5, .slice p12_6 n12_6 c12_6, .int .i64 i12_7]) (by simp [results, Tryz.results231, go_sem, hlB, b0, b1, b2, b3, b4, b5, b6, b7, g0, g1, g2, g3, g4, g5, g6, g7]) rfl ?_
        clear hlB b0 b1 b2 b3 b4 b5 b6 b7 g0 g1 g2 g3 g4 g5 g6 g7
        exact RP.ok (by simp only [Px.unplaced, bind, Px.Rd.bind, offset_res, if_true, if_false, Bool.false_eq_true, num_res, HNB.out, hq1.out, hq3.out, hq5.out, hq7.out, hq9.out, hq11.out, hq12.out] <;> rfl) (HF12.out.join (X := [w.heap.size]) (by repeat' (first | (with_reducible first | exact Fr.refl _ _ | refine Fr.setCell ?_ (Or.inl ?_) _ | refine Fr.alloc ?_ _ | refine Fr.drewN ?_ _) | (simp; done))) (by simp)) (HI12.out.fr (X := [w.heap.size]) H.out (by repeat' (first | (with_reducible first | exact Fr.refl _ _ | refine Fr.setCell ?_ (Or.inl ?_) _ | refine Fr.alloc ?_ _ | refine Fr.drewN ?_ _) | (simp; done))) (by simp)) ⟨[.int .i64 i12_0, .string s12_1, .string s12_2, .string s12_3, .slice p12_4 n12_4 c12_4, .int .i64 i12_5, .slice p12_6 n12_6 c12_6, .int .i64 i12_7], rfl, (rep_own (b := w.heap.size) HV12.out (X := [w.heap.size]) (by repeat' (first | (with_reducible first | exact Fr.refl _ _ | refine Fr.setCell ?_ (Or.inl ?_) _ | refine Fr.alloc ?_ _ | refine Fr.drewN ?_ _) | (simp; done))) (by first | omega | (simp; done) | (simp; omega)) (by first | omega | (simp; done) | (simp; omega)))⟩
       ·go_wp2_with fail
        exact ⟨rfl, RP.bad (by simp only [Px.unplaced, bind, Px.Rd.bind, offset_res, if_true, if_false, Bool.false_eq_true, num_res, HNB.out, hq1.out, hq3.out, hq5.out, hq7.out, hq9.out, hq11.out, hq12.out]) (HF11.out.join (X := []) (Fr.trans (by repeat' (first | (with_reducible first | exact Fr.refl _ _ | refine Fr.setCell ?_ (Or.inl ?_) _ | refine Fr.alloc ?_ _ | refine Fr.drewN ?_ _) | (simp; done))) hf.wide) (by simp)) hi⟩
      ·clear hp
       have hT : Fr [c.R] w9 w11 := Fr.trans (by repeat' (first | (with_reducible first | exact Fr.refl _ _ | refine Fr.setCell ?_ (Or.inl ?_) _ | refine Fr.alloc ?_ _ | refine Fr.drewN ?_ _) | (simp; done))) hf.wide
       have HB11 : Hid (Blk w11 (w.heap.size) 69 #[.int .i64 0, .string ⟨#[]⟩, .string ⟨#[]⟩, .string ⟨#[]⟩, .slice none 0 0, .int .i64 0, .slice none 0 0, .int .i64 0]) := Lib.hid (HB9.out.keep hT (by simp; omega))
       have HI11 := Lib.hid hi
       have HF11 := Lib.hid (HF9.out.join hT (by simp))
       have hz11 := hf.size
       try simp at hz11
       clear hT hf hi
       go_wp2_with fail
       refine (accept_any c ts [[42]] _ _ 1 (by exact HI11.out.fr (X := []) H.out (by repeat' (first | (with_reducible first | exact Fr.refl _ _ | refine Fr.setCell ?_ (Or.inl ?_) _ | refine Fr.alloc ?_ _ | refine Fr.drewN ?_ _) | (simp; done))) (by simp)) rfl (by exact Blk.new_at (by simp)) rfl (by decide)).mono ?_
       rintro e w13 hp
       rcases hp.accept with ⟨hq13, _, hf, hi, rfl⟩ | ⟨hq13, hf, hi, rfl⟩
       ·clear hp
        have hl13 := accept_pos hq13.out rfl
        have hT : Fr [c.R] w11 w13 := Fr.trans (by repeat' (first | (with_reducible first | exact Fr.refl _ _ | refine Fr.setCell ?_ (Or.inl ?_) _ | refine Fr.alloc ?_ _ | refine Fr.drewN ?_ _) | (simp; done))) hf.wide
        have HB13 : Hid (Blk w13 (w.heap.size) 69 #[.int .i64 0, .string ⟨#[]⟩, .string ⟨#[]⟩, .string ⟨#[]⟩, .slice none 0 0, .int .i64 0, .slice none 0 0, .int .i64 0]) := Lib.hid (HB11.out.keep hT (by simp; omega))
        have HI13 := Lib.hid hi
        have HF13 := Lib.hid (HF11.out.join hT (by simp))
        have hz13 := hf.size
        try simp at hz13
        clear hT hf hi
        go_wp2_with fail
        refine (operation_at c ts.tail _ (by exact HI13.out.fr (X := []) H.out (by repeat' (first | (with_reducible first | exact Fr.refl _ _ | refine Fr.setCell ?_ (Or.inl ?_) _ | refine Fr.alloc ?_ _ | refine Fr.drewN ?_ _) | (simp; done))) (by simp)) _ _ 14 1 (by rfl) (by rfl) (by decide)).mono ?_
        rintro e w14 hp
        rcases hp.cases with ⟨x14, ts14, v14, hq14, hf, hi, rfl, hv⟩ | ⟨ts14, hq14, hf, hi, rfl⟩
        ·clear hp
         obtain ⟨cs, rfl, hrep⟩ := hv
         obtain ⟨y14_0, y14_1, y14_2, y14_3, y14_4, y14_5, y14_6, y14_7, rfl⟩ := cells_8 (hrep.len.trans (len_exprQ x14))
         obtain ⟨i14_0, rfl⟩ := hrep.kind 0 rfl (kind_exprQ x14 0 rfl)
         obtain ⟨s14_1, rfl⟩ := hrep.kind 1 rfl (kind_exprQ x14 1 rfl)
         obtain ⟨s14_2, rfl⟩ := hrep.kind 2 rfl (kind_exprQ x14 2 rfl)
         obtain ⟨s14_3, rfl⟩ := hrep.kind 3 rfl (kind_exprQ x14 3 rfl)
         obtain ⟨p14_4, n14_4, c14_4, rfl⟩ := hrep.kind 4 rfl (kind_exprQ x14 4 rfl)
         obtain ⟨i14_5, rfl⟩ := hrep.kind 5 rfl (kind_exprQ x14 5 rfl)
         obtain ⟨p14_6, n14_6, c14_6, rfl⟩ := hrep.kind 6 rfl (kind_exprQ x14 6 rfl)
         obtain ⟨i14_7, rfl⟩ := hrep.kind 7 rfl (kind_exprQ x14 7 rfl)
         have hV14 : Rep w14 (fun k => w.heap.size + 1 ≤ k) _ _ := hrep.mono (fun k hk _ => ⟨by (try simp at hk); omega, rfl⟩)
         have hT : Fr [c.R] w13 w14 := Fr.trans (by repeat' (first | (with_reducible first | exact Fr.refl _ _ | refine Fr.setCell ?_ (Or.inl ?_) _ | refine Fr.alloc ?_ _ | refine Fr.drewN ?_ _) | (simp; done))) hf.wide
         have HB14 : Hid (Blk w14 (w.heap.size) 69 #[.int .i64 0, .string ⟨#[]⟩, .string ⟨#[]⟩, .string ⟨#[]⟩, .slice none 0 0, .int .i64 0, .slice none 0 0, .int .i64 0]) := Lib.hid (HB13.out.keep hT (by simp; omega))
         have HI14 := Lib.hid hi
         have HF14 := Lib.hid (HF13.out.join hT (by simp))
         have hz14 := hf.size
         try simp at hz14
         have HV14 := Lib.hid hV14
         have hl14 : ts14.length ≤ ts.tail.length := (shr_operation _ _).ok hq14.out
         clear hT hf hi hV14 hrep
         have hlB : w.heap.size < w14.heap.size := by omega
         have b0 : w14.cell? ⟨w.heap.size, 0, none⟩ = some (.int .i64 0) := HB14.out.cell 0
         have b1 : w14.cell? ⟨w.heap.size, 1, none⟩ = some (.string ⟨#[]⟩) := HB14.out.cell 1
         have b2 : w14.cell? ⟨w.heap.size, 2, none⟩ = some (.string ⟨#[]⟩) := HB14.out.cell 2
         have b3 : w14.cell? ⟨w.heap.size, 3, none⟩ = some (.string ⟨#[]⟩) := HB14.out.cell 3
         have b4 : w14.cell? ⟨w.heap.size, 4, none⟩ = some (.slice none 0 0) := HB14.out.cell 4
         have b5 : w14.cell? ⟨w.heap.size, 5, none⟩ = some (.int .i64 0) := HB14.out.cell 5
         have b6 : w14.cell? ⟨w.heap.size, 6, none⟩ = some (.slice none 0 0) := HB14.out.cell 6
         have b7 : w14.cell? ⟨w.heap.size, 7, none⟩ = some (.int .i64 0) := HB14.out.cell 7
         have g0 : w14.frozen? ⟨w.heap.size, 0, none⟩ = false := HB14.out.frozen 0
         have g1 : w14.frozen? ⟨w.heap.size, 1, none⟩ = false := HB14.out.frozen 1
         have g2 : w14.frozen? ⟨w.heap.size, 2, none⟩ = false := HB14.out.frozen 2
         have g3 : w14.frozen? ⟨w.heap.size, 3, none⟩ = false := HB14.out.frozen 3
         have g4 : w14.frozen? ⟨w.heap.size, 4, none⟩ = false := HB14.out.frozen 4
         have g5 : w14.frozen? ⟨w.heap.size, 5, none⟩ = false := HB14.out.frozen 5
         have g6 : w14.frozen? ⟨w.heap.size, 6, none⟩ = false := HB14.out.frozen 6
         have g7 : w14.frozen? ⟨w.heap.size, 7, none⟩ = false := HB14.out.frozen 7
         go_wp2_with fail
         refine bodyPost_ret (v := .agg #[.int .i64 i14_0, .string s14_1, .string s14_2, .string s14_3, .slice p14_4 n14_4 c14_4, .int .i64 i14_5, .slice p14_6 n14_6 c14_6, .int .i64 i14_7]) (by simp [results, Tryz.results231, go_sem, hlB, b0, b1, b2, b3, b4, b5, b6, b7, g0, g1, g2, g3, g4, g5, g6, g7]) rfl ?_
         clear hlB b0 b1 b2 b3 b4 b5 b6 b7 g0 g1 g2 g3 g4 g5 g6 g7
         exact RP.ok (by simp only [Px.unplaced, bind, Px.Rd.bind, offset_res, if_true, if_false, Bool.false_eq_true, num_res, HNB.out, hq1.out, hq3.out, hq5.out, hq7.out, hq9.out, hq11.out, hq13.out, hq14.out] <;> rfl) (HF14.out.join (X := [w.heap.size]) (by repeat' (first | (with_reducible first | exact Fr.refl _ _ | refine Fr.setCell ?_ (Or.inl ?_) _ | refine Fr.alloc ?_ _ | refine Fr.drewN ?_ _) | (simp; done))) (by simp)) (HI14.out.fr (X := [w.heap.size]) H.out (by repeat' (first | (with_reducible first | exact Fr.refl _ _ | refine Fr.setCell ?_ (Or.inl ?_) _ | refine Fr.alloc ?_ _ | refine Fr.drewN ?_ _) | (simp; done))) (by simp)) ⟨[.int .i64 i14_0, .string s14_1, .string s14_2, .string s14_3, .slice p14_4 n14_4 c14_4, .int .i64 i14_5, .slice p14_6 n14_6 c14_6, .int .i64 i14_7], rfl, (rep_own (b := w.heap.size) HV14.out (X := [w.heap.size]) (by repeat' (first | (with_reducible first | exact Fr.refl _ _ | refine Fr.setCell ?_ (Or.inl ?_) _ | refine Fr.alloc ?_ _ | refine Fr.drewN ?_ _) | (simp; done))) (by first | omega | (simp; done) | (simp; omega)) (by first | omega | (simp; done) | (simp; omega)))⟩
        ·go_wp2_with fail
         exact ⟨rfl, RP.bad (by simp only [Px.unplaced, bind, Px.Rd.bind, offset_res, if_true, if_false, Bool.false_eq_true, num_res, HNB.out, hq1.out, hq3.out, hq5.out, hq7.out, hq9.out, hq11.out, hq13.out, hq14.out]) (HF13.out.join (X := []) (Fr.trans (by repeat' (first | (with_reducible first | exact Fr.refl _ _ | refine Fr.setCell ?_ (Or.inl ?_) _ | refine Fr.alloc ?_ _ | refine Fr.drewN ?_ _) | (simp; done))) hf.wide) (by simp)) hi⟩
       ·clear hp
        have hT : Fr [c.R] w11 w13 := Fr.trans (by repeat' (first | (with_reducible first | exact Fr.refl _ _ | refine Fr.setCell ?_ (Or.inl ?_) _ | refine Fr.alloc ?_ _ | refine Fr.drewN ?_ _) | (simp; done))) hf.wide
        have HB13 : Hid (Blk w13 (w.heap.size) 69 #[.int .i64 0, .string ⟨#[]⟩, .string ⟨#[]⟩, .string ⟨#[]⟩, .slice none 0 0, .int .i64 0, .slice none 0 0, .int .i64 0]) := Lib.hid (HB11.out.keep hT (by simp; omega))
        have HI13 := Lib.hid hi
        have HF13 := Lib.hid (HF11.out.join hT (by simp))
        have hz13 := hf.size
        try simp at hz13
        clear hT hf hi
        go_wp2_with fail
        refine (accept_any c ts [[97, 114, 101, 110, 97]] _ _ 1 (by exact HI13.out.fr (X := []) H.out (by repeat' (first | (with_reducible first | exact Fr.refl _ _ | refine Fr.setCell ?_ (Or.inl ?_) _ | refine Fr.alloc ?_ _ | refine Fr.drewN ?_ _) | (simp; done))) (by simp)) rfl (by exact Blk.new_at (by simp)) rfl (by decide)).mono ?_
        rintro e w15 hp
        rcases hp.accept with ⟨hq15, _, hf, hi, rfl⟩ | ⟨hq15, hf, hi, rfl⟩
        ·clear hp
         have hl15 := accept_pos hq15.out rfl
         have hT : Fr [c.R] w13 w15 := Fr.trans (by repeat' (first | (with_reducible first | exact Fr.refl _ _ | refine Fr.setCell ?_ (Or.inl ?_) _ | refine Fr.alloc ?_ _ | refine Fr.drewN ?_ _) | (simp; done))) hf.wide
         have HB15 : Hid (Blk w15 (w.heap.size) 69 #[.int .i64 0, .string ⟨#[]⟩, .string ⟨#[]⟩, .string ⟨#[]⟩, .slice none 0 0, .int .i64 0, .slice none 0 0, .int .i64 0]) := Lib.hid (HB13.out.keep hT (by simp; omega))
         have HI15 := Lib.hid hi
         have HF15 := Lib.hid (HF13.out.join hT (by simp))
         have hz15 := hf.size
         try simp at hz15
         clear hT hf hi
         go_wp2_with fail
         refine (operation_at c ts.tail _ (by exact HI15.out.fr (X := []) H.out (by repeat' (first | (with_reducible first | exact Fr.refl _ _ | refine Fr.setCell ?_ (Or.inl ?_) _ | refine Fr.alloc ?_ _ | refine Fr.drewN ?_ _) | (simp; done))) (by simp)) _ _ 17 0 (by rfl) (by rfl) (by decide)).mono ?_
         rintro e w16 hp
         rcases hp.cases with ⟨x16, ts16, v16, hq16, hf, hi, rfl, hv⟩ | ⟨ts16, hq16, hf, hi, rfl⟩
         ·clear hp
          obtain ⟨cs, rfl, hrep⟩ := hv
          obtain ⟨y16_0, y16_1, y16_2, y16_3, y16_4, y16_5, y16_6, y16_7, rfl⟩ := cells_8 (hrep.len.trans (len_exprQ x16))
          obtain ⟨i16_0, rfl⟩ := hrep.kind 0 rfl (kind_exprQ x16 0 rfl)
          obtain ⟨s16_1, rfl⟩ := hrep.kind 1 rfl (kind_exprQ x16 1 rfl)
          obtain ⟨s16_2, rfl⟩ := hrep.kind 2 rfl (kind_exprQ x16 2 rfl)
          obtain ⟨s16_3, rfl⟩ := hrep.kind 3 rfl (kind_exprQ x16 3 rfl)
          obtain ⟨p16_4, n16_4, c16_4, rfl⟩ := hrep.kind 4 rfl (kind_exprQ x16 4 rfl)
          obtain ⟨i16_5, rfl⟩ := hrep.kind 5 rfl (kind_exprQ x16 5 rfl)
          obtain ⟨p16_6, n16_6, c16_6, rfl⟩ := hrep.kind 6 rfl (kind_exprQ x16 6 rfl)
          obtain ⟨i16_7, rfl⟩ := hrep.kind 7 rfl (kind_exprQ x16 7 rfl)
          have hV16 : Rep w16 (fun k => w.heap.size + 1 ≤ k) _ _ := hrep.mono (fun k hk _ => ⟨by (try simp at hk); omega, rfl⟩)
          have hT : Fr [c.R] w15 w16 := Fr.trans (by repeat' (first | (with_reducible first | exact Fr.refl _ _ | refine Fr.setCell ?_ (Or.inl ?_) _ | refine Fr.alloc ?_ _ | refine Fr.drewN ?_ _) | (simp; done))) hf.wide
          have HB16 : Hid (Blk w16 (w.heap.size) 69 #[.int .i64 0, .string ⟨#[]⟩, .string ⟨#[]⟩, .string ⟨#[]⟩, .slice none 0 0, .int .i64 0, .slice none 0 0, .int .i64 0]) := Lib.hid (HB15.out.keep hT (by simp; omega))
          have HI16 := Lib.hid hi
          have HF16 := Lib.hid (HF15.out.join hT (by simp))
          have hz16 := hf.size
          try simp at hz16
          have HV16 := Lib.hid hV16
          have hl16 : ts16.length ≤ ts.tail.length := (shr_operation _ _).ok hq16.out
          clear hT hf hi hV16 hrep
          have hlB : w.heap.size < w16.heap.size := by omega
          have b0 : w16.cell? ⟨w.heap.size, 0, none⟩ = some (.int .i64 0) := HB16.out.cell 0
          have b1 : w16.cell? ⟨w.heap.size, 1, none⟩ = some (.string ⟨#[]⟩) := HB16.out.cell 1
          have b2 : w16.cell? ⟨w.heap.size, 2, none⟩ = some (.string ⟨#[]⟩) := HB16.out.cell 2
          have b3 : w16.cell? ⟨w.heap.size, 3, none⟩ = some (.string ⟨#[]⟩) := HB16.out.cell 3
          have b4 : w16.cell? ⟨w.heap.size, 4, none⟩ = some (.slice none 0 0) := HB16.out.cell 4
          have b5 : w16.cell? ⟨w.heap.size, 5, none⟩ = some (.int .i64 0) := HB16.out.cell 5
          have b6 : w16.cell? ⟨w.heap.size, 6, none⟩ = some (.slice none 0 0) := HB16.out.cell 6
          have b7 : w16.cell? ⟨w.heap.size, 7, none⟩ = some (.int .i64 0) := HB16.out.cell 7
          have g0 : w16.frozen? ⟨w.heap.size, 0, none⟩ = false := HB16.out.frozen 0
          have g1 : w16.frozen? ⟨w.heap.size, 1, none⟩ = false := HB16.out.frozen 1
          have g2 : w16.frozen? ⟨w.heap.size, 2, none⟩ = false := HB16.out.frozen 2
          have g3 : w16.frozen? ⟨w.heap.size, 3, none⟩ = false := HB16.out.frozen 3
          have g4 : w16.frozen? ⟨w.heap.size, 4, none⟩ = false := HB16.out.frozen 4
          have g5 : w16.frozen? ⟨w.heap.size, 5, none⟩ = false := HB16.out.frozen 5
          have g6 : w16.frozen? ⟨w.heap.size, 6, none⟩ = false := HB16.out.frozen 6
          have g7 : w16.frozen? ⟨w.heap.size, 7, none⟩ = false := HB16.out.frozen 7
          go_wp2_with fail
          refine bodyPost_ret (v := .agg #[.int .i64 i16_0, .string s16_1, .string s16_2, .string s16_3, .slice p16_4 n16_4 c16_4, .int .i64 i16_5, .slice p16_6 n16_6 c16_6, .int .i64 i16_7]) (by simp [results, Tryz.results231, go_sem, hlB, b0, b1, b2, b3, b4, b5, b6, b7, g0, g1, g2, g3, g4, g5, g6, g7]) rfl ?_
          clear hlB b0 b1 b2 b3 b4 b5 b6 b7 g0 g1 g2 g3 g4 g5 g6 g7
          exact RP.ok (by simp only [Px.unplaced, bind, Px.Rd.bind, offset_res, if_true, if_false, Bool.false_eq_true, num_res, HNB.out, hq1.out, hq3.out, hq5.out, hq7.out, hq9.out, hq11.out, hq13.out, hq15.out, hq16.out] <;> rfl) (HF16.out.join (X := [w.heap.size]) (by repeat' (first | (with_reducible first | exact Fr.refl _ _ | refine Fr.setCell ?_ (Or.inl ?_) _ | refine Fr.alloc ?_ _ | refine Fr.drewN ?_ _) | (simp; done))) (by simp)) (HI16.out.fr (X := [w.heap.size]) H.out (by repeat' (first | (with_reducible first | exact Fr.refl _ _ | refine Fr.setCell ?_ (Or.inl ?_) _ | refine Fr.alloc ?_ _ | refine Fr.drewN ?_ _) | (simp; done))) (by simp)) ⟨[.int .i64 i16_0, .string s16_1, .string s16_2, .string s16_3, .slice p16_4 n16_4 c16_4, .int .i64 i16_5, .slice p16_6 n16_6 c16_6, .int .i64 i16_7], rfl, (rep_own (b := w.heap.size) HV16.out (X := [w.heap.size]) (by repeat' (first | (with_reducible first | exact Fr.refl _ _ | refine Fr.setCell ?_ (Or.inl ?_) _ | refine Fr.alloc ?_ _ | refine Fr.drewN ?_ _) | (simp; done))) (by first | omega | (simp; done) | (simp; omega)) (by first | omega | (simp; done) | (simp; omega)))⟩
         ·go_wp2_with fail
          exact ⟨rfl, RP.bad (by simp only [Px.unplaced, bind, Px.Rd.bind, offset_res, if_true, if_false, Bool.false_eq_true, num_res, HNB.out, hq1.out, hq3.out, hq5.out, hq7.out, hq9.out, hq11.out, hq13.out, hq15.out, hq16.out]) (HF15.out.join (X := []) (Fr.trans (by repeat' (first | (with_reducible first | exact Fr.refl _ _ | refine Fr.setCell ?_ (Or.inl ?_) _ | refine Fr.alloc ?_ _ | refine Fr.drewN ?_ _) | (simp; done))) hf.wide) (by simp)) hi⟩
        ·clear hp
         have hT : Fr [c.R] w13 w15 := Fr.trans (by repeat' (first | (with_reducible first | exact Fr.refl _ _ | refine Fr.setCell ?_ (Or.inl ?_) _ | refine Fr.alloc ?_ _ | refine Fr.drewN ?_ _) | (simp; done))) hf.wide
         have HB15 : Hid (Blk w15 (w.heap.size) 69 #[.int .i64 0, .string ⟨#[]⟩, .string ⟨#[]⟩, .string ⟨#[]⟩, .slice none 0 0, .int .i64 0, .slice none 0 0, .int .i64 0]) := Lib.hid (HB13.out.keep hT (by simp; omega))
         have HI15 := Lib.hid hi
         have HF15 := Lib.hid (HF13.out.join hT (by simp))
         have hz15 := hf.size
         try simp at hz15
         clear hT hf hi
         go_wp2_with fail
         refine (accept_any c ts [[97, 108, 108, 111, 99]] _ _ 1 (by exact HI15.out.fr (X := []) H.out (by repeat' (first | (with_reducible first | exact Fr.refl _ _ | refine Fr.setCell ?_ (Or.inl ?_) _ | refine Fr.alloc ?_ _ | refine Fr.drewN ?_ _) | (simp; done))) (by simp)) rfl (by exact Blk.new_at (by simp)) rfl (by decide)).mono ?_
         rintro e w17 hp
         rcases hp.accept with ⟨hq17, _, hf, hi, rfl⟩ | ⟨hq17, hf, hi, rfl⟩
         ·clear hp
          have hl17 := accept_pos hq17.out rfl
          have hT : Fr [c.R] w15 w17 := Fr.trans (by repeat' (first | (with_reducible first | exact Fr.refl _ _ | refine Fr.setCell ?_ (Or.inl ?_) _ | refine Fr.alloc ?_ _ | refine Fr.drewN ?_ _) | (simp; done))) hf.wide
          have HB17 : Hid (Blk w17 (w.heap.size) 69 #[.int .i64 0, .string ⟨#[]⟩, .string ⟨#[]⟩, .string ⟨#[]⟩, .slice none 0 0, .int .i64 0, .slice none 0 0, .int .i64 0]) := Lib.hid (HB15.out.keep hT (by simp; omega))
          have HI17 := Lib.hid hi
          have HF17 := Lib.hid (HF15.out.join hT (by simp))
          have hz17 := hf.size
          try simp at hz17
          clear hT hf hi
          go_wp2_with fail
          refine (operation_at c ts.tail _ (by exact HI17.out.fr (X := []) H.out (by repeat' (first | (with_reducible first | exact Fr.refl _ _ | refine Fr.setCell ?_ (Or.inl ?_) _ | refine Fr.alloc ?_ _ | refine Fr.drewN ?_ _) | (simp; done))) (by simp)) _ _ 18 2 (by rfl) (by rfl) (by decide)).mono ?_
          rintro e w18 hp
          rcases hp.cases with ⟨x18, ts18, v18, hq18, hf, hi, rfl, hv⟩ | ⟨ts18, hq18, hf, hi, rfl⟩
          ·clear hp
           obtain ⟨cs, rfl, hrep⟩ := hv
           obtain ⟨y18_0, y18_1, y18_2, y18_3, y18_4, y18_5, y18_6, y18_7, rfl⟩ := cells_8 (hrep.len.trans (len_exprQ x18))
           obtain ⟨i18_0, rfl⟩ := hrep.kind 0 rfl (kind_exprQ x18 0 rfl)
           obtain ⟨s18_1, rfl⟩ := hrep.kind 1 rfl (kind_exprQ x18 1 rfl)
           obtain ⟨s18_2, rfl⟩ := hrep.kind 2 rfl (kind_exprQ x18 2 rfl)
           obtain ⟨s18_3, rfl⟩ := hrep.kind 3 rfl (kind_exprQ x18 3 rfl)
           obtain ⟨p18_4, n18_4, c18_4, rfl⟩ := hrep.kind 4 rfl (kind_exprQ x18 4 rfl)
           obtain ⟨i18_5, rfl⟩ := hrep.kind 5 rfl (kind_exprQ x18 5 rfl)
           obtain ⟨p18_6, n18_6, c18_6, rfl⟩ := hrep.kind 6 rfl (kind_exprQ x18 6 rfl)
           obtain ⟨i18_7, rfl⟩ := hrep.kind 7 rfl (kind_exprQ x18 7 rfl)
           have hV18 : Rep w18 (fun k => w.heap.size + 1 ≤ k) _ _ := hrep.mono (fun k hk _ => ⟨by (try simp at hk); omega, rfl⟩)
           have hT : Fr [c.R] w17 w18 := Fr.trans (by repeat' (first | (with_reducible first | exact Fr.refl _ _ | refine Fr.setCell ?_ (Or.inl ?_) _ | refine Fr.alloc ?_ _ | refine Fr.drewN ?_ _) | (simp; done))) hf.wide
           have HB18 : Hid (Blk w18 (w.heap.size) 69 #[.int .i64 0, .string ⟨#[]⟩, .string ⟨#[]⟩, .string ⟨#[]⟩, .slice none 0 0, .int .i64 0, .slice none 0 0, .int .i64 0]) := Lib.hid (HB17.out.keep hT (by simp; omega))
           have HI18 := Lib.hid hi
           have HF18 := Lib.hid (HF17.out.join hT (by simp))
           have hz18 := hf.size
           try simp at hz18
           have HV18 := Lib.hid hV18
           have hl18 : ts18.length ≤ ts.tail.length := (shr_operation _ _).ok hq18.out
           clear hT hf hi hV18 hrep
           have hlB : w.heap.size < w18.heap.size := by omega
           have b0 : w18.cell? ⟨w.heap.size, 0, none⟩ = some (.int .i64 0) := HB18.out.cell 0
           have b1 : w18.cell? ⟨w.heap.size, 1, none⟩ = some (.string ⟨#[]⟩) := HB18.out.cell 1
           have b2 : w18.cell? ⟨w.heap.size, 2, none⟩ = some (.string ⟨#[]⟩) := HB18.out.cell 2
           have b3 : w18.cell? ⟨w.heap.size, 3, none⟩ = some (.string ⟨#[]⟩) := HB18.out.cell 3
           have b4 : w18.cell? ⟨w.heap.size, 4, none⟩ = some (.slice none 0 0) := HB18.out.cell 4
           have b5 : w18.cell? ⟨w.heap.size, 5, none⟩ = some (.int .i64 0) := HB18.out.cell 5
           have b6 : w18.cell? ⟨w.heap.size, 6, none⟩ = some (.slice none 0 0) := HB18.out.cell 6
           have b7 : w18.cell? ⟨w.heap.size, 7, none⟩ = some (.int .i64 0) := HB18.out.cell 7
           have g0 : w18.frozen? ⟨w.heap.size, 0, none⟩ = false := HB18.out.frozen 0
           have g1 : w18.frozen? ⟨w.heap.size, 1, none⟩ = false := HB18.out.frozen 1
           have g2 : w18.frozen? ⟨w.heap.size, 2, none⟩ = false := HB18.out.frozen 2
           have g3 : w18.frozen? ⟨w.heap.size, 3, none⟩ = false := HB18.out.frozen 3
           have g4 : w18.frozen? ⟨w.heap.size, 4, none⟩ = false := HB18.out.frozen 4
           have g5 : w18.frozen? ⟨w.heap.size, 5, none⟩ = false := HB18.out.frozen 5
           have g6 : w18.frozen? ⟨w.heap.size, 6, none⟩ = false := HB18.out.frozen 6
           have g7 : w18.frozen? ⟨w.heap.size, 7, none⟩ = false := HB18.out.frozen 7
           go_wp2_with fail
           refine bodyPost_ret (v := .agg #[.int .i64 i18_0, .string s18_1, .string s18_2, .string s18_3, .slice p18_4 n18_4 c18_4, .int .i64 i18_5, .slice p18_6 n18_6 c18_6, .int .i64 i18_7]) (by simp [results, Tryz.results231, go_sem, hlB, b0, b1, b2, b3, b4, b5, b6, b7, g0, g1, g2, g3, g4, g5, g6, g7]) rfl ?_
           clear hlB b0 b1 b2 b3 b4 b5 b6 b7 g0 g1 g2 g3 g4 g5 g6 g7
           exact RP.ok (by simp only [Px.unplaced, bind, Px.Rd.bind, offset_res, if_true, if_false, Bool.false_eq_true, num_res, HNB.out, hq1.out, hq3.out, hq5.out, hq7.out, hq9.out, hq11.out, hq13.out, hq15.out, hq17.out, hq18.out] <;> rfl) (HF18.out.join (X := [w.heap.size]) (by repeat' (first | (with_reducible first | exact Fr.refl _ _ | refine Fr.setCell ?_ (Or.inl ?_) _ | refine Fr.alloc ?_ _ | refine Fr.drewN ?_ _) | (simp; done))) (by simp)) (HI18.out.fr (X := [w.heap.size]) H.out (by repeat' (first | (with_reducible first | exact Fr.refl _ _ | refine Fr.setCell ?_ (Or.inl ?_) _ | refine Fr.alloc ?_ _ | refine Fr.drewN ?_ _) | (simp; done))) (by simp)) ⟨[.int .i64 i18_0, .string s18_1, .string s18_2, .string s18_3, .slice p18_4 n18_4 c18_4, .int .i64 i18_5, .slice p18_6 n18_6 c18_6, .int .i64 i18_7], rfl, (rep_own (b := w.heap.size) HV18.out (X := [w.heap.size]) (by repeat' (first | (with_reducible first | exact Fr.refl _ _ | refine Fr.setCell ?_ (Or.inl ?_) _ | refine Fr.alloc ?_ _ | refine Fr.drewN ?_ _) | (simp; done))) (by first | omega | (simp; done) | (simp; omega)) (by first | omega | (simp; done) | (simp; omega)))⟩
          ·go_wp2_with fail
           exact ⟨rfl, RP.bad (by simp only [Px.unplaced, bind, Px.Rd.bind, offset_res, if_true, if_false, Bool.false_eq_true, num_res, HNB.out, hq1.out, hq3.out, hq5.out, hq7.out, hq9.out, hq11.out, hq13.out, hq15.out, hq17.out, hq18.out]) (HF17.out.join (X := []) (Fr.trans (by repeat' (first | (with_reducible first | exact Fr.refl _ _ | refine Fr.setCell ?_ (Or.inl ?_) _ | refine Fr.alloc ?_ _ | refine Fr.drewN ?_ _) | (simp; done))) hf.wide) (by simp)) hi⟩
         ·clear hp
          have hT : Fr [c.R] w15 w17 := Fr.trans (by repeat' (first | (with_reducible first | exact Fr.refl _ _ | refine Fr.setCell ?_ (Or.inl ?_) _ | refine Fr.alloc ?_ _ | refine Fr.drewN ?_ _) | (simp; done))) hf.wide
          have HB17 : Hid (Blk w17 (w.heap.size) 69 #[.int .i64 0, .string ⟨#[]⟩, .string ⟨#[]⟩, .string ⟨#[]⟩, .slice none 0 0, .int .i64 0, .slice none 0 0, .int .i64 0]) := Lib.hid (HB15.out.keep hT (by simp; omega))
          have HI17 := Lib.hid hi
          have HF17 := Lib.hid (HF15.out.join hT (by simp))
          have hz17 := hf.size
          try simp at hz17
          clear hT hf hi
          go_wp2_with fail
          refine (accept_any c ts [[99, 104, 97, 110]] _ _ 1 (by exact HI17.out.fr (X := []) H.out (by repeat' (first | (with_reducible first | exact Fr.refl _ _ | refine Fr.setCell ?_ (Or.inl ?_) _ | refine Fr.alloc ?_ _ | refine Fr.drewN ?_ _) | (simp; done))) (by simp)) rfl (by exact Blk.new_at (by simp)) rfl (by decide)).mono ?_
          rintro e w19 hp
          rcases hp.accept with ⟨hq19, _, hf, hi, rfl⟩ | ⟨hq19, hf, hi, rfl⟩
          ·clear hp
           have hl19 := accept_pos hq19.out rfl
           have hT : Fr [c.R] w17 w19 := Fr.trans (by repeat' (first | (with_reducible first | exact Fr.refl _ _ | refine Fr.setCell ?_ (Or.inl ?_) _ | refine Fr.alloc ?_ _ | refine Fr.drewN ?_ _) | (simp; done))) hf.wide
           have HB19 : Hid (Blk w19 (w.heap.size) 69 #[.int .i64 0, .string ⟨#[]⟩, .string ⟨#[]⟩, .string ⟨#[]⟩, .slice none 0 0, .int .i64 0, .slice none 0 0, .int .i64 0]) := Lib.hid (HB17.out.keep hT (by simp; omega))
           have HI19 := Lib.hid hi
           have HF19 := Lib.hid (HF17.out.join hT (by simp))
           have hz19 := hf.size
           try simp at hz19
           clear hT hf hi
           go_wp2_with fail
           refine (HTY.out ts.tail _ (by exact HI19.out.fr (X := []) H.out (by repeat' (first | (with_reducible first | exact Fr.refl _ _ | refine Fr.setCell ?_ (Or.inl ?_) _ | refine Fr.alloc ?_ _ | refine Fr.drewN ?_ _) | (simp; done))) (by simp)) (by omega)).mono ?_
           rintro e w20 hp
           rcases hp.cases with ⟨x20, ts20, v20, hq20, hf, hi, rfl, hv⟩ | ⟨ts20, hq20, hf, hi, rfl⟩
           ·clear hp
            obtain ⟨cs, rfl, hrep⟩ := hv
            obtain ⟨y20_0, y20_1, y20_2, rfl⟩ := cells_3 (hrep.len.trans (len_typeQ x20))
            obtain ⟨s20_0, rfl⟩ := hrep.kind 0 rfl (kind_typeQ x20 0 rfl)
            obtain ⟨p20_1, n20_1, c20_1, rfl⟩ := hrep.kind 1 rfl (kind_typeQ x20 1 rfl)
            obtain ⟨i20_2, rfl⟩ := hrep.kind 2 rfl (kind_typeQ x20 2 rfl)
            have hV20 : Rep w20 (fun k => w.heap.size + 1 ≤ k) _ _ := hrep.mono (fun k hk _ => ⟨by (try simp at hk); omega, rfl⟩)
            have hT : Fr [c.R] w19 w20 := Fr.trans (by repeat' (first | (with_reducible first | exact Fr.refl _ _ | refine Fr.setCell ?_ (Or.inl ?_) _ | refine Fr.alloc ?_ _ | refine Fr.drewN ?_ _) | (simp; done))) hf.wide
            have HB20 : Hid (Blk w20 (w.heap.size) 69 #[.int .i64 0, .string ⟨#[]⟩, .string ⟨#[]⟩, .string ⟨#[]⟩, .slice none 0 0, .int .i64 0, .slice none 0 0, .int .i64 0]) := Lib.hid (HB19.out.keep hT (by simp; omega))
            have HI20 := Lib.hid hi
            have HF20 := Lib.hid (HF19.out.join hT (by simp))
            have hz20 := hf.size
            try simp at hz20
            have HV20 := Lib.hid hV20
            have hl20 : ts20.length ≤ ts.tail.length := (shr_typeF _ _).ok hq20.out
            clear hT hf hi hV20 hrep
            have hlB : w.heap.size < w20.heap.size := by omega
            have b0 : w20.cell? ⟨w.heap.size, 0, none⟩ = some (.int .i64 0) := HB20.out.cell 0
            have b1 : w20.cell? ⟨w.heap.size, 1, none⟩ = some (.string ⟨#[]⟩) := HB20.out.cell 1
            have b2 : w20.cell? ⟨w.heap.size, 2, none⟩ = some (.string ⟨#[]⟩) := HB20.out.cell 2
            have b3 : w20.cell? ⟨w.heap.size, 3, none⟩ = some (.string ⟨#[]⟩) := HB20.out.cell 3
            have b4 : w20.cell? ⟨w.heap.size, 4, none⟩ = some (.slice none 0 0) := HB20.out.cell 4
            have b5 : w20.cell? ⟨w.heap.size, 5, none⟩ = some (.int .i64 0) := HB20.out.cell 5
            have b6 : w20.cell? ⟨w.heap.size, 6, none⟩ = some (.slice none 0 0) := HB20.out.cell 6
            have b7 : w20.cell? ⟨w.heap.size, 7, none⟩ = some (.int .i64 0) := HB20.out.cell 7
            have g0 : w20.frozen? ⟨w.heap.size, 0, none⟩ = false := HB20.out.frozen 0
            have g1 : w20.frozen? ⟨w.heap.size, 1, none⟩ = false := HB20.out.frozen 1
            have g2 : w20.frozen? ⟨w.heap.size, 2, none⟩ = false := HB20.out.frozen 2
            have g3 : w20.frozen? ⟨w.heap.size, 3, none⟩ = false := HB20.out.frozen 3
            have g4 : w20.frozen? ⟨w.heap.size, 4, none⟩ = false := HB20.out.frozen 4
            have g5 : w20.frozen? ⟨w.heap.size, 5, none⟩ = false := HB20.out.frozen 5
            have g6 : w20.frozen? ⟨w.heap.size, 6, none⟩ = false := HB20.out.frozen 6
            have g7 : w20.frozen? ⟨w.heap.size, 7, none⟩ = false := HB20.out.frozen 7
            go_wp2_with fail
            refine bodyPost_ret (v := .agg #[.int .i64 19, .string ⟨#[]⟩, .string ⟨#[]⟩, .string ⟨#[]⟩, .slice none 0 0, .int .i64 0, .slice (some ⟨w20.heap.size, 0, none⟩) 1 1, .int .i64 0]) (by simp [results, Tryz.results231, go_sem, hlB, b0, b1, b2, b3, b4, b5, b6, b7, g0, g1, g2, g3, g4, g5, g6, g7]) rfl ?_
            clear hlB b0 b1 b2 b3 b4 b5 b6 b7 g0 g1 g2 g3 g4 g5 g6 g7
            exact RP.ok (a := { Px.expr0 with kind := 19, type := [x20] }) (by simp only [Px.unplaced, bind, Px.Rd.bind, offset_res, if_true, if_false, Bool.false_eq_true, num_res, HNB.out, hq1.out, hq3.out, hq5.out, hq7.out, hq9.out, hq11.out, hq13.out, hq15.out, hq17.out, hq19.out, hq20.out] <;> rfl) (HF20.out.join (X := [w.heap.size]) (by repeat' (first | (with_reducible first | exact Fr.refl _ _ | refine Fr.setCell ?_ (Or.inl ?_) _ | refine Fr.alloc ?_ _ | refine Fr.drewN ?_ _) | (simp; done))) (by simp)) (HI20.out.fr (X := [w.heap.size]) H.out (by repeat' (first | (with_reducible first | exact Fr.refl _ _ | refine Fr.setCell ?_ (Or.inl ?_) _ | refine Fr.alloc ?_ _ | refine Fr.drewN ?_ _) | (simp; done))) (by simp)) ⟨[.int .i64 19, .string ⟨#[]⟩, .string ⟨#[]⟩, .string ⟨#[]⟩, .slice none 0 0, .int .i64 0, .slice (some ⟨w20.heap.size, 0, none⟩) 1 1, .int .i64 0], rfl, rep_int.2 ⟨_, rfl, rep_str.2 ⟨_, rfl, rep_str.2 ⟨_, rfl, rep_str.2 ⟨_, rfl, rep_sl.2 ⟨_, _, rfl, RowV.nil _ _ _ _, rep_int.2 ⟨_, rfl, rep_sl.2 ⟨_, _, rfl, (row_one (b := w.heap.size) (w := _) (g := w20.heap.size) (xs := [.string s20_0, .slice p20_1 n20_1 c20_1, .int .i64 i20_2]) (by repeat' (first | with_reducible refine Blk.new_at ?_ | with_reducible refine Blk.alloc ?_ _ | with_reducible refine Blk.other ?_ ?_ _ | (simp; done) | (simp; omega))) (by omega) rfl (rep_own HV20.out (X := [w.heap.size]) (by repeat' (first | (with_reducible first | exact Fr.refl _ _ | refine Fr.setCell ?_ (Or.inl ?_) _ | refine Fr.alloc ?_ _ | refine Fr.drewN ?_ _) | (simp; done))) (by first | omega | (simp; done) | (simp; omega)) (by first | omega | (simp; done) | (simp; omega)))), rep_int.2 ⟨_, rfl, rep_nil.2 rfl⟩⟩⟩⟩⟩⟩⟩⟩⟩
           ·go_wp2_with fail
            exact ⟨rfl, RP.bad (by simp only [Px.unplaced, bind, Px.Rd.bind, offset_res, if_true, if_false, Bool.false_eq_true, num_res, HNB.out, hq1.out, hq3.out, hq5.out, hq7.out, hq9.out, hq11.out, hq13.out, hq15.out, hq17.out, hq19.out, hq20.out]) (HF19.out.join (X := []) (Fr.trans (by repeat' (first | (with_reducible first | exact Fr.refl _ _ | refine Fr.setCell ?_ (Or.inl ?_) _ | refine Fr.alloc ?_ _ | refine Fr.drewN ?_ _) | (simp; done))) hf.wide) (by simp)) hi⟩
          ·clear hp
           have hT : Fr [c.R] w17 w19 := Fr.trans (by repeat' (first | (with_reducible first | exact Fr.refl _ _ | refine Fr.setCell ?_ (Or.inl ?_) _ | refine Fr.alloc ?_ _ | refine Fr.drewN ?_ _) | (simp; done))) hf.wide
           have HB19 : Hid (Blk w19 (w.heap.size) 69 #[.int .i64 0, .string ⟨#[]⟩, .string ⟨#[]⟩, .string ⟨#[]⟩, .slice none 0 0, .int .i64 0, .slice none 0 0, .int .i64 0]) := Lib.hid (HB17.out.keep hT (by simp; omega))
           have HI19 := Lib.hid hi
           have HF19 := Lib.hid (HF17.out.join hT (by simp))
           have hz19 := hf.size
           try simp at hz19
           clear hT hf hi
           go_wp2_with fail
           refine (accept_any c ts [[114, 101, 99, 118]] _ _ 1 (by exact HI19.out.fr (X := []) H.out (by repeat' (first | (with_reducible first | exact Fr.refl _ _ | refine Fr.setCell ?_ (Or.inl ?_) _ | refine Fr.alloc ?_ _ | refine Fr.drewN ?_ _) | (simp; done))) (by simp)) rfl (by exact Blk.new_at (by simp)) rfl (by decide)).mono ?_
           rintro e w21 hp
           rcases hp.accept with ⟨hq21, _, hf, hi, rfl⟩ | ⟨hq21, hf, hi, rfl⟩
           ·clear hp
            have hl21 := accept_pos hq21.out rfl
            have hT : Fr [c.R] w19 w21 := Fr.trans (by repeat' (first | (with_reducible first | exact Fr.refl _ _ | refine Fr.setCell ?_ (Or.inl ?_) _ | refine Fr.alloc ?_ _ | refine Fr.drewN ?_ _) | (simp; done))) hf.wide
            have HB21 : Hid (Blk w21 (w.heap.size) 69 #[.int .i64 0, .string ⟨#[]⟩, .string ⟨#[]⟩, .string ⟨#[]⟩, .slice none 0 0, .int .i64 0, .slice none 0 0, .int .i64 0]) := Lib.hid (HB19.out.keep hT (by simp; omega))
            have HI21 := Lib.hid hi
            have HF21 := Lib.hid (HF19.out.join hT (by simp))
            have hz21 := hf.size
            try simp at hz21
            clear hT hf hi
            go_wp2_with fail
            refine (operation_at c ts.tail _ (by exact HI21.out.fr (X := []) H.out (by repeat' (first | (with_reducible first | exact Fr.refl _ _ | refine Fr.setCell ?_ (Or.inl ?_) _ | refine Fr.alloc ?_ _ | refine Fr.drewN ?_ _) | (simp; done))) (by simp)) _ _ 20 1 (by rfl) (by rfl) (by decide)).mono ?_
            rintro e w22 hp
            rcases hp.cases with ⟨x22, ts22, v22, hq22, hf, hi, rfl, hv⟩ | ⟨ts22, hq22, hf, hi, rfl⟩
            ·clear hp
             obtain ⟨cs, rfl, hrep⟩ := hv
             obtain ⟨y22_0, y22_1, y22_2, y22_3, y22_4, y22_5, y22_6, y22_7, rfl⟩ := cells_8 (hrep.len.trans (len_exprQ x22))
             obtain ⟨i22_0, rfl⟩ := hrep.kind 0 rfl (kind_exprQ x22 0 rfl)
             obtain ⟨s22_1, rfl⟩ := hrep.kind 1 rfl (kind_exprQ x22 1 rfl)
             obtain ⟨s22_2, rfl⟩ := hrep.kind 2 rfl (kind_exprQ x22 2 rfl)
             obtain ⟨s22_3, rfl⟩ := hrep.kind 3 rfl (kind_exprQ x22 3 rfl)
             obtain ⟨p22_4, n22_4, c22_4, rfl⟩ := hrep.kind 4 rfl (kind_exprQ x22 4 rfl)
             obtain ⟨i22_5, rfl⟩ := hrep.kind 5 rfl (kind_exprQ x22 5 rfl)
             obtain ⟨p22_6, n22_6, c22_6, rfl⟩ := hrep.kind 6 rfl (kind_exprQ x22 6 rfl)
             obtain ⟨i22_7, rfl⟩ := hrep.kind 7 rfl (kind_exprQ x22 7 rfl)
             have hV22 : Rep w22 (fun k => w.heap.size + 1 ≤ k) _ _ := hrep.mono (fun k hk _ => ⟨by (try simp at hk); omega, rfl⟩)
             have hT : Fr [c.R] w21 w22 := Fr.trans (by repeat' (first | (with_reducible first | exact Fr.refl _ _ | refine Fr.setCell ?_ (Or.inl ?_) _ | refine Fr.alloc ?_ _ | refine Fr.drewN ?_ _) | (simp; done))) hf.wide
             have HB22 : Hid (Blk w22 (w.heap.size) 69 #[.int .i64 0, .string ⟨#[]⟩, .string ⟨#[]⟩, .string ⟨#[]⟩, .slice none 0 0, .int .i64 0, .slice none 0 0, .int .i64 0]) := Lib.hid (HB21.out.keep hT (by simp; omega))
             have HI22 := Lib.hid hi
             have HF22 := Lib.hid (HF21.out.join hT (by simp))
             have hz22 := hf.size
             try simp at hz22
             have HV22 := Lib.hid hV22
             have hl22 : ts22.length ≤ ts.tail.length := (shr_operation _ _).ok hq22.out
             clear hT hf hi hV22 hrep
             have hlB : w.heap.size < w22.heap.size := by omega
             have b0 : w22.cell? ⟨w.heap.size, 0, none⟩ = some (.int .i64 0) := HB22.out.cell 0
             have b1 : w22.cell? ⟨w.heap.size, 1, none⟩ = some (.string ⟨#[]⟩) := HB22.out.cell 1
             have b2 : w22.cell? ⟨w.heap.size, 2, none⟩ = some (.string ⟨#[]⟩) := HB22.out.cell 2
             have b3 : w22.cell? ⟨w.heap.size, 3, none⟩ = some (.string ⟨#[]⟩) := HB22.out.cell 3
             have b4 : w22.cell? ⟨w.heap.size, 4, none⟩ = some (.slice none 0 0) := HB22.out.cell 4
             have b5 : w22.cell? ⟨w.heap.size, 5, none⟩ = some (.int .i64 0) := HB22.out.cell 5
             have b6 : w22.cell? ⟨w.heap.size, 6, none⟩ = some (.slice none 0 0) := HB22.out.cell 6
             have b7 : w22.cell? ⟨w.heap.size, 7, none⟩ = some (.int .i64 0) := HB22.out.cell 7
             have g0 : w22.frozen? ⟨w.heap.size, 0, none⟩ = false := HB22.out.frozen 0
             have g1 : w22.frozen? ⟨w.heap.size, 1, none⟩ = false := HB22.out.frozen 1
             have g2 : w22.frozen? ⟨w.heap.size, 2, none⟩ = false := HB22.out.frozen 2
             have g3 : w22.frozen? ⟨w.heap.size, 3, none⟩ = false := HB22.out.frozen 3
             have g4 : w22.frozen? ⟨w.heap.size, 4, none⟩ = false := HB22.out.frozen 4
             have g5 : w22.frozen? ⟨w.heap.size, 5, none⟩ = false := HB22.out.frozen 5
             have g6 : w22.frozen? ⟨w.heap.size, 6, none⟩ = false := HB22.out.frozen 6
             have g7 : w22.frozen? ⟨w.heap.size, 7, none⟩ = false := HB22.out.frozen 7
             go_wp2_with fail
             refine bodyPost_ret (v := .agg #[.int .i64 i22_0, .string s22_1, .string s22_2, .string s22_3, .slice p22_4 n22_4 c22_4, .int .i64 i22_5, .slice p22_6 n22_6 c22_6, .int .i64 i22_7]) (by simp [results, Tryz.results231, go_sem, hlB, b0, b1, b2, b3, b4, b5, b6, b7, g0, g1, g2, g3, g4, g5, g6, g7]) rfl ?_
             clear hlB b0 b1 b2 b3 b4 b5 b6 b7 g0 g1 g2 g3 g4 g5 g6 g7
             exact RP.ok (by simp only [Px.unplaced, bind, Px.Rd.bind, offset_res, if_true, if_false, Bool.false_eq_true, num_res, HNB.out, hq1.out, hq3.out, hq5.out, hq7.out, hq9.out, hq11.out, hq13.out, hq15.out, hq17.out, hq19.out, hq21.out, hq22.out] <;> rfl) (HF22.out.join (X := [w.heap.size]) (by repeat' (first | (with_reducible first | exact Fr.refl _ _ | refine Fr.setCell ?_ (Or.inl ?_) _ | refine Fr.alloc ?_ _ | refine Fr.drewN ?_ _) | (simp; done))) (by simp)) (HI22.out.fr (X := [w.heap.size]) H.out (by repeat' (first | (with_reducible first | exact Fr.refl _ _ | refine Fr.setCell ?_ (Or.inl ?_) _ | refine Fr.alloc ?_ _ | refine Fr.drewN ?_ _) | (simp; done))) (by simp)) ⟨[.int .i64 i22_0, .string s22_1, .string s22_2, .string s22_3, .slice p22_4 n22_4 c22_4, .int .i64 i22_5, .slice p22_6 n22_6 c22_6, .int .i64 i22_7], rfl, (rep_own (b := w.heap.size) HV22.out (X := [w.heap.size]) (by repeat' (first | (with_reducible first | exact Fr.refl _ _ | refine Fr.setCell ?_ (Or.inl ?_) _ | refine Fr.alloc ?_ _ | refine Fr.drewN ?_ _) | (simp; done))) (by first | omega | (simp; done) | (simp; omega)) (by first | omega | (simp; done) | (simp; omega)))⟩
            ·go_wp2_with fail
             exact ⟨rfl, RP.bad (by simp only [Px.unplaced, bind, Px.Rd.bind, offset_res, if_true, if_false, Bool.false_eq_true, num_res, HNB.out, hq1.out, hq3.out, hq5.out, hq7.out, hq9.out, hq11.out, hq13.out, hq15.out, hq17.out, hq19.out, hq21.out, hq22.out]) (HF21.out.join (X := []) (Fr.trans (by repeat' (first | (with_reducible first | exact Fr.refl _ _ | refine Fr.setCell ?_ (Or.inl ?_) _ | refine Fr.alloc ?_ _ | refine Fr.drewN ?_ _) | (simp; done))) hf.wide) (by simp)) hi⟩
           ·clear hp
            have hT : Fr [c.R] w19 w21 := Fr.trans (by repeat' (first | (with_reducible first | exact Fr.refl _ _ | refine Fr.setCell ?_ (Or.inl ?_) _ | refine Fr.alloc ?_ _ | refine Fr.drewN ?_ _) | (simp; done))) hf.wide
            have HB21 : Hid (Blk w21 (w.heap.size) 69 #[.int .i64 0, .string ⟨#[]⟩, .string ⟨#[]⟩, .string ⟨#[]⟩, .slice none 0 0, .int .i64 0, .slice none 0 0, .int .i64 0]) := Lib.hid (HB19.out.keep hT (by simp; omega))
            have HI21 := Lib.hid hi
            have HF21 := Lib.hid (HF19.out.join hT (by simp))
            have hz21 := hf.size
            try simp at hz21
            clear hT hf hi
            go_wp2_with fail
            refine (name_any c ts _ (by exact HI21.out.fr (X := []) H.out (by repeat' (first | (with_reducible first | exact Fr.refl _ _ | refine Fr.setCell ?_ (Or.inl ?_) _ | refine Fr.alloc ?_ _ | refine Fr.drewN ?_ _) | (simp; done))) (by simp))).mono ?_
            rintro e w23 hp
            rcases hp.cases with ⟨x23, ts23, v23, hq23, hf, hi, rfl, hv⟩ | ⟨ts23, hq23, hf, hi, rfl⟩
            ·clear hp
             obtain rfl := hv
             have hT : Fr [c.R] w21 w23 := Fr.trans (by repeat' (first | (with_reducible first | exact Fr.refl _ _ | refine Fr.setCell ?_ (Or.inl ?_) _ | refine Fr.alloc ?_ _ | refine Fr.drewN ?_ _) | (simp; done))) hf.wide
             have HB23 : Hid (Blk w23 (w.heap.size) 69 #[.int .i64 0, .string ⟨#[]⟩, .string ⟨#[]⟩, .string ⟨#[]⟩, .slice none 0 0, .int .i64 0, .slice none 0 0, .int .i64 0]) := Lib.hid (HB21.out.keep hT (by simp; omega))
             have HI23 := Lib.hid hi
             have HF23 := Lib.hid (HF21.out.join hT (by simp))
             have hz23 := hf.size
             try simp at hz23
             have hl23 : ts23.length < ts.length := Strict.name _ _ _ hq23.out
             clear hT hf hi
             go_wp2_with fail
             refine (afterName_any c x23 ts23 _ (by exact HI23.out.fr (X := []) H.out (by repeat' (first | (with_reducible first | exact Fr.refl _ _ | refine Fr.setCell ?_ (Or.inl ?_) _ | refine Fr.alloc ?_ _ | refine Fr.drewN ?_ _) | (simp; done))) (by simp))).mono ?_
             rintro e w24 hp
             rcases hp.cases with ⟨x24, ts24, v24, hq24, hf, hi, rfl, hv⟩ | ⟨ts24, hq24, hf, hi, rfl⟩
             ·clear hp
              obtain ⟨cs, rfl, hrep⟩ := hv
              obtain ⟨y24_0, y24_1, y24_2, y24_3, y24_4, y24_5, y24_6, y24_7, rfl⟩ := cells_8 (hrep.len.trans (len_exprQ x24))
              obtain ⟨i24_0, rfl⟩ := hrep.kind 0 rfl (kind_exprQ x24 0 rfl)
              obtain ⟨s24_1, rfl⟩ := hrep.kind 1 rfl (kind_exprQ x24 1 rfl)
              obtain ⟨s24_2, rfl⟩ := hrep.kind 2 rfl (kind_exprQ x24 2 rfl)
              obtain ⟨s24_3, rfl⟩ := hrep.kind 3 rfl (kind_exprQ x24 3 rfl)
              obtain ⟨p24_4, n24_4, c24_4, rfl⟩ := hrep.kind 4 rfl (kind_exprQ x24 4 rfl)
              obtain ⟨i24_5, rfl⟩ := hrep.kind 5 rfl (kind_exprQ x24 5 rfl)
              obtain ⟨p24_6, n24_6, c24_6, rfl⟩ := hrep.kind 6 rfl (kind_exprQ x24 6 rfl)
              obtain ⟨i24_7, rfl⟩ := hrep.kind 7 rfl (kind_exprQ x24 7 rfl)
              have hV24 : Rep w24 (fun k => w.heap.size + 1 ≤ k) _ _ := hrep.mono (fun k hk _ => ⟨by (try simp at hk); omega, rfl⟩)
              have hT : Fr [c.R] w23 w24 := Fr.trans (by repeat' (first | (with_reducible first | exact Fr.refl _ _ | refine Fr.setCell ?_ (Or.inl ?_) _ | refine Fr.alloc ?_ _ | refine Fr.drewN ?_ _) | (simp; done))) hf.wide
              have HB24 : Hid (Blk w24 (w.heap.size) 69 #[.int .i64 0, .string ⟨#[]⟩, .string ⟨#[]⟩, .string ⟨#[]⟩, .slice none 0 0, .int .i64 0, .slice none 0 0, .int .i64 0]) := Lib.hid (HB23.out.keep hT (by simp; omega))
              have HI24 := Lib.hid hi
              have HF24 := Lib.hid (HF23.out.join hT (by simp))
              have hz24 := hf.size
              try simp at hz24
              have HV24 := Lib.hid hV24
              have hl24 : ts24.length ≤ ts23.length := (shr_afterName _).ok hq24.out
              clear hT hf hi hV24 hrep
              have hlB : w.heap.size < w24.heap.size := by omega
              have b0 : w24.cell? ⟨w.heap.size, 0, none⟩ = some (.int .i64 0) := HB24.out.cell 0
              have b1 : w24.cell? ⟨w.heap.size, 1, none⟩ = some (.string ⟨#[]⟩) := HB24.out.cell 1
              have b2 : w24.cell? ⟨w.heap.size, 2, none⟩ = some (.string ⟨#[]⟩) := HB24.out.cell 2
              have b3 : w24.cell? ⟨w.heap.size, 3, none⟩ = some (.string ⟨#[]⟩) := HB24.out.cell 3
              have b4 : w24.cell? ⟨w.heap.size, 4, none⟩ = some (.slice none 0 0) := HB24.out.cell 4
              have b5 : w24.cell? ⟨w.heap.size, 5, none⟩ = some (.int .i64 0) := HB24.out.cell 5
              have b6 : w24.cell? ⟨w.heap.size, 6, none⟩ = some (.slice none 0 0) := HB24.out.cell 6
              have b7 : w24.cell? ⟨w.heap.size, 7, none⟩ = some (.int .i64 0) := HB24.out.cell 7
              have g0 : w24.frozen? ⟨w.heap.size, 0, none⟩ = false := HB24.out.frozen 0
              have g1 : w24.frozen? ⟨w.heap.size, 1, none⟩ = false := HB24.out.frozen 1
              have g2 : w24.frozen? ⟨w.heap.size, 2, none⟩ = false := HB24.out.frozen 2
              have g3 : w24.frozen? ⟨w.heap.size, 3, none⟩ = false := HB24.out.frozen 3
              have g4 : w24.frozen? ⟨w.heap.size, 4, none⟩ = false := HB24.out.frozen 4
              have g5 : w24.frozen? ⟨w.heap.size, 5, none⟩ = false := HB24.out.frozen 5
              have g6 : w24.frozen? ⟨w.heap.size, 6, none⟩ = false := HB24.out.frozen 6
              have g7 : w24.frozen? ⟨w.heap.size, 7, none⟩ = false := HB24.out.frozen 7
              go_wp2_with fail
              refine bodyPost_ret (v := .agg #[.int .i64 i24_0, .string s24_1, .string s24_2, .string s24_3, .slice p24_4 n24_4 c24_4, .int .i64 i24_5, .slice p24_6 n24_6 c24_6, .int .i64 i24_7]) (by simp [results, Tryz.results231, go_sem, hlB, b0, b1, b2, b3, b4, b5, b6, b7, g0, g1, g2, g3, g4, g5, g6, g7]) rfl ?_
              clear hlB b0 b1 b2 b3 b4 b5 b6 b7 g0 g1 g2 g3 g4 g5 g6 g7
              exact RP.ok (by simp only [Px.unplaced, bind, Px.Rd.bind, offset_res, if_true, if_false, Bool.false_eq_true, num_res, HNB.out, hq1.out, hq3.out, hq5.out, hq7.out, hq9.out, hq11.out, hq13.out, hq15.out, hq17.out, hq19.out, hq21.out, hq23.out, hq24.out] <;> rfl) (HF24.out.join (X := [w.heap.size]) (by repeat' (first | (with_reducible first | exact Fr.refl _ _ | refine Fr.setCell ?_ (Or.inl ?_) _ | refine Fr.alloc ?_ _ | refine Fr.drewN ?_ _) | (simp; done))) (by simp)) (HI24.out.fr (X := [w.heap.size]) H.out (by repeat' (first | (with_reducible first | exact Fr.refl _ _ | refine Fr.setCell ?_ (Or.inl ?_) _ | refine Fr.alloc ?_ _ | refine Fr.drewN ?_ _) | (simp; done))) (by simp)) ⟨[.int .i64 i24_0, .string s24_1, .string s24_2, .string s24_3, .slice p24_4 n24_4 c24_4, .int .i64 i24_5, .slice p24_6 n24_6 c24_6, .int .i64 i24_7], rfl, (rep_own (b := w.heap.size) HV24.out (X := [w.heap.size]) (by repeat' (first | (with_reducible first | exact Fr.refl _ _ | refine Fr.setCell ?_ (Or.inl ?_) _ | refine Fr.alloc ?_ _ | refine Fr.drewN ?_ _) | (simp; done))) (by first | omega | (simp; done) | (simp; omega)) (by first | omega | (simp; done) | (simp; omega)))⟩
             ·go_wp2_with fail
              exact ⟨rfl, RP.bad (by simp only [Px.unplaced, bind, Px.Rd.bind, offset_res, if_true, if_false, Bool.false_eq_true, num_res, HNB.out, hq1.out, hq3.out, hq5.out, hq7.out, hq9.out, hq11.out, hq13.out, hq15.out, hq17.out, hq19.out, hq21.out, hq23.out, hq24.out]) (HF23.out.join (X := []) (Fr.trans (by repeat' (first | (with_reducible first | exact Fr.refl _ _ | refine Fr.setCell ?_ (Or.inl ?_) _ | refine Fr.alloc ?_ _ | refine Fr.drewN ?_ _) | (simp; done))) hf.wide) (by simp)) hi⟩
            ·go_wp2_with fail
             exact ⟨rfl, RP.bad (by simp only [Px.unplaced, bind, Px.Rd.bind, offset_res, if_true, if_false, Bool.false_eq_true, num_res, HNB.out, hq1.out, hq3.out, hq5.out, hq7.out, hq9.out, hq11.out, hq13.out, hq15.out, hq17.out, hq19.out, hq21.out, hq23.out]) (HF21.out.join (X := []) (Fr.trans (by repeat' (first | (with_reducible first | exact Fr.refl _ _ | refine Fr.setCell ?_ (Or.inl ?_) _ | refine Fr.alloc ?_ _ | refine Fr.drewN ?_ _) | (simp; done))) hf.wide) (by simp)) hi⟩
theorem unplaced_any (c : Ctx) (ts : List Tk) (w : World) (h : Inv c ts w) (n : Nat) (hty : Reads c 189 n (okAgg typeQ) (Px.typeF c.size n)) (hm : ts.length < n) :
  Calls Tryz.prog 231 #[.pointer (some ⟨c.R, 0, none⟩)] w (RP c w (okAgg exprQ) (Px.unplaced c.size n ts)) := by
 cases hn : numB ts with
 | true => exact unplaced_num c ts w h n hty hm hn
 | false => exact unplaced_not c ts w h n hty hm hn
set_option maxRecDepth 100000 in
set_option maxHeartbeats 1600000 in
theorem expr_any (c : Ctx) (ts : List Tk) (w : World) (h : Inv c ts w) (n : Nat) (hty : Reads c 189 n (okAgg typeQ) (Px.typeF c.size n)) (hm : ts.length < n) :
  Calls Tryz.prog 190 #[.pointer (some ⟨c.R, 0, none⟩)] w (RP c w (okAgg exprQ) (Px.expr c.size n ts)) := by
 have HTY : Hid (Reads c 189 n (okAgg typeQ) (Px.typeF c.size n)) := Lib.hid hty
 clear hty
 have hmf := make_func
 have H := Lib.hid h
 have HR0 := H.out.lt.1
 clear h
 go_enter Tryz.func190, Tryz.ntmps190
 go_wp2_with fail
 refine (offset_any c ts _ (by exact H.out.fr (X := []) H.out (by repeat' (first | (with_reducible first | exact Fr.refl _ _ | refine Fr.setCell ?_ (Or.inl ?_) _ | refine Fr.alloc ?_ _ | refine Fr.drewN ?_ _) | (simp; done))) (by simp))).mono ?_
 rintro e w' ⟨rfl, rfl⟩
 go_wp2_with fail
 refine (unplaced_any c ts _ (by exact H.out.fr (X := []) H.out (by repeat' (first | (with_reducible first | exact Fr.refl _ _ | refine Fr.setCell ?_ (Or.inl ?_) _ | refine Fr.alloc ?_ _ | refine Fr.drewN ?_ _) | (simp; done))) (by simp)) n HTY.out (by omega)).mono ?_
 rintro e w1 hp
 rcases hp.cases with ⟨x1, ts1, v1, hq1, hf, hi, rfl, hv⟩ | ⟨ts1, hq1, hf, hi, rfl⟩
 ·clear hp
  obtain ⟨cs, rfl, hrep⟩ := hv
  obtain ⟨y1_0, y1_1, y1_2, y1_3, y1_4, y1_5, y1_6, y1_7, rfl⟩ := cells_8 (hrep.len.trans (len_exprQ x1))
  obtain ⟨i1_0, rfl⟩ := hrep.kind 0 rfl (kind_exprQ x1 0 rfl)
  obtain ⟨s1_1, rfl⟩ := hrep.kind 1 rfl (kind_exprQ x1 1 rfl)
  obtain ⟨s1_2, rfl⟩ := hrep.kind 2 rfl (kind_exprQ x1 2 rfl)
  obtain ⟨s1_3, rfl⟩ := hrep.kind 3 rfl (kind_exprQ x1 3 rfl)
  obtain ⟨p1_4, n1_4, c1_4, rfl⟩ := hrep.kind 4 rfl (kind_exprQ x1 4 rfl)
  obtain ⟨i1_5, rfl⟩ := hrep.kind 5 rfl (kind_exprQ x1 5 rfl)
  obtain ⟨p1_6, n1_6, c1_6, rfl⟩ := hrep.kind 6 rfl (kind_exprQ x1 6 rfl)
  obtain ⟨i1_7, rfl⟩ := hrep.kind 7 rfl (kind_exprQ x1 7 rfl)
  have hV1 : Rep w1 (fun k => w.heap.size + 1 ≤ k) _ _ := hrep.mono (fun k hk _ => ⟨by (try simp at hk); omega, rfl⟩)
  have hT : Fr [c.R] w w1 := Fr.trans (by repeat' (first | (with_reducible first | exact Fr.refl _ _ | refine Fr.setCell ?_ (Or.inl ?_) _ | refine Fr.alloc ?_ _ | refine Fr.drewN ?_ _) | (simp; done))) hf.wide
  have HB1 : Hid (Blk w1 (w.heap.size) 69 #[.int .i64 0, .string ⟨#[]⟩, .string ⟨#[]⟩, .string ⟨#[]⟩, .slice none 0 0, .int .i64 0, .slice none 0 0, .int .i64 0]) := Lib.hid ((Blk.new w _ _).keep hf (by simp; omega))
  have HI1 := Lib.hid hi
  have HF1 := Lib.hid ((Fr.refl [c.R] w).join hT (by simp))
  have hz1 := hf.size
  try simp at hz1
  have HV1 := Lib.hid hV1
  have hl1 : ts1.length ≤ ts.length := (shr_unplaced _ _).ok hq1.out
  clear hT hf hi hV1 hrep
  have hlB : w.heap.size < w1.heap.size := by omega
  have b0 : w1.cell? ⟨w.heap.size, 0, none⟩ = some (.int .i64 0) := HB1.out.cell 0
  have b1 : w1.cell? ⟨w.heap.size, 1, none⟩ = some (.string ⟨#[]⟩) := HB1.out.cell 1
  have b2 : w1.cell? ⟨w.heap.size, 2, none⟩ = some (.string ⟨#[]⟩) := HB1.out.cell 2
  have b3 : w1.cell? ⟨w.heap.size, 3, none⟩ = some (.string ⟨#[]⟩) := HB1.out.cell 3
  have b4 : w1.cell? ⟨w.heap.size, 4, none⟩ = some (.slice none 0 0) := HB1.out.cell 4
  have b5 : w1.cell? ⟨w.heap.size, 5, none⟩ = some (.int .i64 0) := HB1.out.cell 5
  have b6 : w1.cell? ⟨w.heap.size, 6, none⟩ = some (.slice none 0 0) := HB1.out.cell 6
  have b7 : w1.cell? ⟨w.heap.size, 7, none⟩ = some (.int .i64 0) := HB1.out.cell 7
  have g0 : w1.frozen? ⟨w.heap.size, 0, none⟩ = false := HB1.out.frozen 0
  have g1 : w1.frozen? ⟨w.heap.size, 1, none⟩ = false := HB1.out.frozen 1
  have g2 : w1.frozen? ⟨w.heap.size, 2, none⟩ = false := HB1.out.frozen 2
  have g3 : w1.frozen? ⟨w.heap.size, 3, none⟩ = false := HB1.out.frozen 3
  have g4 : w1.frozen? ⟨w.heap.size, 4, none⟩ = false := HB1.out.frozen 4
  have g5 : w1.frozen? ⟨w.heap.size, 5, none⟩ = false := HB1.out.frozen 5
  have g6 : w1.frozen? ⟨w.heap.size, 6, none⟩ = false := HB1.out.frozen 6
  have g7 : w1.frozen? ⟨w.heap.size, 7, none⟩ = false := HB1.out.frozen 7
  go_wp2_with fail
  refine bodyPost_ret (v := .agg #[.int .i64 i1_0, .string s1_1, .string s1_2, .string s1_3, .slice p1_4 n1_4 c1_4, .int .i64 i1_5, .slice p1_6 n1_6 c1_6, .int .i64 (offOf c.size ts)]) (by simp [results, Tryz.results190, go_sem, hlB, b0, b1, b2, b3, b4, b5, b6, b7, g0, g1, g2, g3, g4, g5, g6, g7]) rfl ?_
  clear hlB b0 b1 b2 b3 b4 b5 b6 b7 g0 g1 g2 g3 g4 g5 g6 g7
  exact RP.ok (by simp only [Px.expr, bind, Px.Rd.bind, offset_res, if_true, if_false, Bool.false_eq_true, hq1.out] <;> rfl) (HF1.out.join (X := [w.heap.size]) (by repeat' (first | (with_reducible first | exact Fr.refl _ _ | refine Fr.setCell ?_ (Or.inl ?_) _ | refine Fr.alloc ?_ _ | refine Fr.drewN ?_ _) | (simp; done))) (by simp)) (HI1.out.fr (X := [w.heap.size]) H.out (by repeat' (first | (with_reducible first | exact Fr.refl _ _ | refine Fr.setCell ?_ (Or.inl ?_) _ | refine Fr.alloc ?_ _ | refine Fr.drewN ?_ _) | (simp; done))) (by simp)) ⟨[.int .i64 i1_0, .string s1_1, .string s1_2, .string s1_3, .slice p1_4 n1_4 c1_4, .int .i64 i1_5, .slice p1_6 n1_6 c1_6, .int .i64 (offOf c.size ts)], rfl, expr_rep (rep_own (b := w.heap.size) HV1.out (X := [w.heap.size]) (by repeat' (first | (with_reducible first | exact Fr.refl _ _ | refine Fr.setCell ?_ (Or.inl ?_) _ | refine Fr.alloc ?_ _ | refine Fr.drewN ?_ _) | (simp; done))) (by first | omega | (simp; done) | (simp; omega)) (by first | omega | (simp; done) | (simp; omega)))⟩
 ·go_wp2_with fail
  exact ⟨rfl, RP.bad (by simp only [Px.expr, bind, Px.Rd.bind, offset_res, if_true, if_false, Bool.false_eq_true, hq1.out]) ((Fr.refl [c.R] w).join (X := []) (Fr.trans (by repeat' (first | (with_reducible first | exact Fr.refl _ _ | refine Fr.setCell ?_ (Or.inl ?_) _ | refine Fr.alloc ?_ _ | refine Fr.drewN ?_ _) | (simp; done))) hf.wide) (by simp)) hi⟩
end Go.Proofs.YtpdhiminpdmpiaaGreatDoor
