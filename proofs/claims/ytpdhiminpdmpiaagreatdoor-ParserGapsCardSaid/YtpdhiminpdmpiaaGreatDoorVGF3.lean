/-
 The walk of operation.
-/
import Derived.Test.YtpdhiminpdmpiaaGreatDoorVP
import Derived.Test.YtpdhiminpdmpiaaGreatDoorVK
import Derived.Deep.RegionLaw
set_option linter.unusedVariables false
set_option linter.unusedSimpArgs false
set_option linter.unusedSectionVars false
set_option linter.unusedVariables false
set_option linter.unusedSimpArgs false
set_option linter.unusedSectionVars false
namespace Go.Proofs.YtpdhiminpdmpiaaGreatDoor
open Go.RowKit Go.Lib
open Lx (Tk)
open Px (Txt TyE VarD DataD TraitD BoundD ImplD ArgD ExprD StmtD ArmD FuncD ModD)
theorem Blk.grown {w w' : World} {b T : Nat} {cs : Array Value} {row : Option Nat} (h : Blk w b T cs) (hg : w.grownBy w' row) (hr : ∀ k, row = some k → b < k) : Blk w' b T cs :=
 (hg.block b h.lt (fun e => by have := hr b e.symm; omega)).trans h
/-- a reading call, both ways at once -/
theorem Calls.both {c : Ctx} {α : Type} {f : Nat} {args : Array Value} {w : World} {okv : Nat → α → World → Value → Prop} {r : Px.Res α} {R : Ending → World → Prop} (h : Calls Tryz.prog f args w (RP c w okv r))
  (hb : ∀ ts w', r = .bad ts → Fr [c.R] w w' → Inv c ts w' → R (.panicked [failE c ts]) w') (hk : ∀ a ts v w', Hid (r = .ok a ts) → Fr [c.R] w w' → Inv c ts w' → okv w.heap.size a w' v → R (.returned v) w') : Calls Tryz.prog f args w R :=
 h.mono fun e w' hp => by
  rcases hp.cases with ⟨a, ts, v, h1, h2, h3, rfl, h4⟩ | ⟨ts, h1, h2, h3, rfl⟩
  ·exact hk a ts v w' h1 h2 h3 h4
  ·exact hb ts w' h1.out h2 h3
theorem operands_succ {i : Nat} {ts ts' ts3 : List Tk} {acc : List Txt} {x : Txt} (h : Px.operands i ts = .ok acc ts') (hn : Px.name ts' = .ok x ts3) : Px.operands (i + 1) ts = .ok (acc ++ [x]) ts3 := by
 simp only [Px.operands, bind, Px.Rd.bind, h, hn]; rfl
theorem operands_stuck {i : Nat} {ts ts' ts3 : List Tk} {acc : List Txt} (h : Px.operands i ts = .ok acc ts') (hn : Px.name ts' = .bad ts3) : ∀ j, Px.operands (i + 1 + j) ts = .bad ts3
 | 0 => by simp only [Nat.add_zero, Px.operands, bind, Px.Rd.bind, h, hn]
 | j + 1 => by rw [show i + 1 + (j + 1) = (i + 1 + j) + 1 from by omega]; simp only [Px.operands, bind, Px.Rd.bind, operands_stuck h hn j]
set_option maxRecDepth 100000 in
set_option maxHeartbeats 1600000 in
theorem operation_any (c : Ctx) (ts : List Tk) (w : World) (h : Inv c ts w) (kind k : Nat) (hk : k ≤ 2) :
  Calls Tryz.prog 284 #[.pointer (some ⟨c.R, 0, none⟩), .int .i64 kind, .int .i64 k] w (RP c w (okAgg exprQ) (Px.operation kind k ts)) := by
 obtain ⟨i0, hi, hz0, hz1, hz2⟩ := info_parts info_str
 have HINF := Lib.hid hi
 have H := Lib.hid h
 have HR0 := H.out.lt.1
 clear h hi
 go_enter Tryz.func284, Tryz.ntmps284
 go_wp2_with fail
 go_loopw [11] (fun vi wr => ∃ (i : Nat) (acc : List Txt) (ts' : List Tk) (v : Value), vi = .int .i64 i ∧ i ≤ k ∧ acc.length = i ∧ Px.operands i ts = .ok acc ts' ∧ Inv c ts' wr ∧ Fr [c.R] w wr ∧
   Blk wr w.heap.size 69 #[.int .i64 0, .string ⟨#[]⟩, .string ⟨#[]⟩, .string ⟨#[]⟩, .slice none 0 0, .int .i64 0, .slice none 0 0, .int .i64 0] ∧
   Blk wr (w.heap.size + 1) 69 #[.int .i64 kind, .string ⟨#[]⟩, .string ⟨#[]⟩, .string ⟨#[]⟩, v, .int .i64 0, .slice none 0 0, .int .i64 0] ∧
   ListAt wr (w.heap.size + 2) 9 1 i (rowsQ strQ acc) v ∧ w.heap.size + 2 ≤ wr.heap.size) (fun vi _ => k - (RowKit.intOf vi).toNat)
 case atStart =>
  exact ⟨0, [], ts, .slice none 0 0, rfl, by omega, rfl, rfl, (H.out.alloc _).alloc _, ((Fr.refl _ _).alloc _).alloc _, (Blk.new w _ _).alloc _, Blk.new_at (by simp), .inl ⟨rfl, rfl, rfl⟩, by simp⟩
 case round =>
  obtain ⟨i, acc, ts', v, rfl, hik, hl, hsp, hI, hF, hB, hD, hL, hz⟩ := hrel
  obtain ⟨p, cc, rfl⟩ := hL.shape
  have HL := Lib.hid hl
  have HSP := Lib.hid hsp
  have HI := Lib.hid hI
  have HF := Lib.hid hF
  have HB := Lib.hid hB
  have HD := Lib.hid hD
  have HLS := Lib.hid hL
  by_cases hlt : i < k
  ·have d4 : wr.cell? ⟨w.heap.size + 1, 4, none⟩ = some (.slice p i cc) := hD.cell 4
   have hd : decide ((i : Int) < (k : Int)) = true := by simp; omega
   have hd' : decide (i < k) = true := by simp; omega
   clear hl hsp hI hF hB hD hL
   have HBAD : Hid (∀ ts3 w3, Px.name ts' = .bad ts3 → Fr [c.R] wr.drew w3 → Inv c ts3 w3 → RP c w (okAgg exprQ) (Px.operation kind k ts) (.panicked [failE c ts3]) w3) := by
    refine Lib.hid (fun ts3 w3 hnm hf3 hi3 => RP.bad ?_ (HF.out.drew.trans hf3) hi3)
    have := operands_stuck HSP.out hnm (k - (i + 1))
    rw [show i + 1 + (k - (i + 1)) = k by omega] at this
    simp only [Px.operation, bind, Px.Rd.bind, this]
   go_wp2_with fail
   go_region_law (first | (refine step_append_list _ (by rfl) _ _ 23 (by rfl) (w.heap.size + 2) 9 i0 _ 1 16 Tryz.underlying23 HINF.out hz0 hz1 hz2 rfl (by decide) (.slice p i cc) i 1 (rowsQ strQ acc) (strQ x) (by rfl) G1.out ⟨w3.heap.size, 0, none⟩ 1 [.string ⟨x.toArray⟩] (by rfl) (by decide) rfl G2.out G3.out (by omega) (by decide) g4 ?_; intro p' c' w4 hL4 hg4; have hD4 := Lib.hid (((HD.out.keep ((Fr.refl [c.R] wr).drew.trans hf3) (by simp; omega)).alloc (.cells #[.string ⟨x.toArray⟩] 9)).grown hg4 (fun k e => by have := (HLS.out.own k e).1; omega)); have hk4 : w4.cell? ⟨w.heap.size + 1, 4, none⟩ = some (.slice p i cc) := hD4.out.cell 4; have hf4 : w4.frozen? ⟨w.heap.size + 1, 4, none⟩ = false := hD4.out.frozen 4) | (go_simp; go_at_call 147; refine Calls.both (name_any c ts' _ HI.out.drew) (fun ts3 w3 h1 h2 h3 => And.intro rfl (HBAD.out ts3 w3 h1 h2 h3)) ?_; intro x ts3 v3 w3 hq3 hf3 hi3 hv3; obtain rfl := hv3; have hk3 : w3.cell? ⟨w.heap.size + 1, 4, none⟩ = some (.slice p i cc) := (hf3.cell HD.out.lt (by simp; omega) 4).trans d4; have h9 : wr.heap.size ≤ w3.heap.size := hf3.size; have hz3 : w.heap.size + 1 < w3.heap.size := (by omega); have hr3 : Rep w3 (fun k => wr.heap.size ≤ k) (strQ x) [.string ⟨x.toArray⟩] := rep_str.2 ⟨_, rfl, rep_nil.2 rfl⟩; obtain ⟨g1, g2, g3, g4⟩ := append_ready (news := [.string ⟨x.toArray⟩]) HLS.out (Nat.le_refl _) ((Fr.refl [c.R] wr).drew.trans hf3) (by omega) hz hr3 9; have G1 := Lib.hid g1; have G2 := Lib.hid g2; have G3 := Lib.hid g3; clear g1 g2 g3 hr3))
   all_goals
    have HS5 := Lib.hid (operands_succ HSP.out hq3.out)
    have hB4 := (((HB.out.keep ((Fr.refl [c.R] wr).drew.trans hf3) (by simp; omega)).alloc (.cells #[.string ⟨x.toArray⟩] 9)).grown hg4 (fun k e => by have := (HLS.out.own k e).1; omega))
    have hI4 := (hi3.alloc (.cells #[.string ⟨x.toArray⟩] 9)).grown H.out hg4 (fun k e => by have := (HLS.out.own k e).1; omega)
    have hF4 := ((HF.out.drew.trans hf3).alloc (.cells #[.string ⟨x.toArray⟩] 9)).grown hg4 (fun k e => by have := (HLS.out.own k e).1; omega)
    have hz4 : w.heap.size + 2 ≤ w4.heap.size := by have h1 := hg4.size; simp at h1; omega
    have HLI := Lib.hid HL.out
    have HB5 := Lib.hid (hB4.keep (X := [w.heap.size + 1]) ((Fr.refl _ w4).setCell (p := ⟨w.heap.size + 1, 4, none⟩) (.inl (by simp)) (.slice p' (i + 1) c')) (by simp))
    have HI5 := Lib.hid (hI4.fr (X := [w.heap.size + 1]) H.out ((Fr.refl _ w4).setCell (p := ⟨w.heap.size + 1, 4, none⟩) (.inl (by simp)) (.slice p' (i + 1) c')) (by simp))
    have HF5 := Lib.hid (hF4.setCell (p := ⟨w.heap.size + 1, 4, none⟩) (.inr (by simp)) (.slice p' (i + 1) c'))
    have HD5 := Lib.hid (hD4.out.set 4 (.slice p' (i + 1) c'))
    have HL5 := Lib.hid (hL4.keep (X := [w.heap.size + 1]) ((Fr.refl _ w4).setCell (p := ⟨w.heap.size + 1, 4, none⟩) (.inl (by simp)) (.slice p' (i + 1) c')) (by simp))
    clear hB4 hI4 hF4 hL4 hg4 hf3 hi3 hk3 hk4 hf4 hq3
    go_wp2_with fail
    go_roundw
    case rel => exact ⟨i + 1, acc ++ [x], _, _, by go_num, by omega, by simp [HLI.out], HS5.out, HI5.out, HF5.out, HB5.out, HD5.out, by rw [rowsQ_snoc]; exact HL5.out, by simpa using hz4⟩
    case measure => simp [RowKit.intOf]; omega
  ·have hik' : i = k := by omega
   subst hik'
   have hd : decide ((i : Int) < (i : Int)) = false := by simp
   clear hl hsp hI hF hB hD hL
   have HV9 : Hid (okRow 9 1 strQ (w.heap.size + 2) acc wr (.slice p i cc)) := Lib.hid (by unfold okRow; rw [HL.out]; exact HLS.out.row)
   have hlB : w.heap.size < wr.heap.size := by omega
   have hlD : w.heap.size + 1 < wr.heap.size := HD.out.lt
   have d0 : wr.cell? ⟨w.heap.size + 1, 0, none⟩ = some (.int .i64 kind) := HD.out.cell 0
   have d1 : wr.cell? ⟨w.heap.size + 1, 1, none⟩ = some (.string ⟨#[]⟩) := HD.out.cell 1
   have d2 : wr.cell? ⟨w.heap.size + 1, 2, none⟩ = some (.string ⟨#[]⟩) := HD.out.cell 2
   have d3 : wr.cell? ⟨w.heap.size + 1, 3, none⟩ = some (.string ⟨#[]⟩) := HD.out.cell 3
   have d4 : wr.cell? ⟨w.heap.size + 1, 4, none⟩ = some (.slice p i cc) := HD.out.cell 4
   have d5 : wr.cell? ⟨w.heap.size + 1, 5, none⟩ = some (.int .i64 0) := HD.out.cell 5
   have d6 : wr.cell? ⟨w.heap.size + 1, 6, none⟩ = some (.slice none 0 0) := HD.out.cell 6
   have d7 : wr.cell? ⟨w.heap.size + 1, 7, none⟩ = some (.int .i64 0) := HD.out.cell 7
   have b0 : wr.cell? ⟨w.heap.size, 0, none⟩ = some (.int .i64 0) := HB.out.cell 0
   have b1 : wr.cell? ⟨w.heap.size, 1, none⟩ = some (.string ⟨#[]⟩) := HB.out.cell 1
   have b2 : wr.cell? ⟨w.heap.size, 2, none⟩ = some (.string ⟨#[]⟩) := HB.out.cell 2
   have b3 : wr.cell? ⟨w.heap.size, 3, none⟩ = some (.string ⟨#[]⟩) := HB.out.cell 3
   have b4 : wr.cell? ⟨w.heap.size, 4, none⟩ = some (.slice none 0 0) := HB.out.cell 4
   have b5 : wr.cell? ⟨w.heap.size, 5, none⟩ = some (.int .i64 0) := HB.out.cell 5
   have b6 : wr.cell? ⟨w.heap.size, 6, none⟩ = some (.slice none 0 0) := HB.out.cell 6
   have b7 : wr.cell? ⟨w.heap.size, 7, none⟩ = some (.int .i64 0) := HB.out.cell 7
   have g0 : wr.frozen? ⟨w.heap.size, 0, none⟩ = false := HB.out.frozen 0
   have g1 : wr.frozen? ⟨w.heap.size, 1, none⟩ = false := HB.out.frozen 1
   have g2 : wr.frozen? ⟨w.heap.size, 2, none⟩ = false := HB.out.frozen 2
   have g3 : wr.frozen? ⟨w.heap.size, 3, none⟩ = false := HB.out.frozen 3
   have g4 : wr.frozen? ⟨w.heap.size, 4, none⟩ = false := HB.out.frozen 4
   have g5 : wr.frozen? ⟨w.heap.size, 5, none⟩ = false := HB.out.frozen 5
   have g6 : wr.frozen? ⟨w.heap.size, 6, none⟩ = false := HB.out.frozen 6
   have g7 : wr.frozen? ⟨w.heap.size, 7, none⟩ = false := HB.out.frozen 7
   go_wp2_with fail
   refine bodyPost_ret (v := .agg #[.int .i64 kind, .string ⟨#[]⟩, .string ⟨#[]⟩, .string ⟨#[]⟩, .slice p i cc, .int .i64 0, .slice none 0 0, .int .i64 0]) (by simp [results, Tryz.results284, go_sem, hlB, hlD, d0, d1, d2, d3, d4, d5, d6, d7, b0, b1, b2, b3, b4, b5, b6, b7, g0, g1, g2, g3, g4, g5, g6, g7]) rfl ?_
   clear hlB hlD d0 d1 d2 d3 d4 d5 d6 d7 b0 b1 b2 b3 b4 b5 b6 b7 g0 g1 g2 g3 g4 g5 g6 g7
   exact RP.ok (by simp only [Px.operation, bind, Px.Rd.bind, offset_res, if_true, if_false, Bool.false_eq_true, HSP.out] <;> rfl) (HF.out.join (X := [w.heap.size + 1, w.heap.size]) (by repeat' (first | (with_reducible first | exact Fr.refl _ _ | refine Fr.setCell ?_ (Or.inl ?_) _ | refine Fr.alloc ?_ _ | refine Fr.drewN ?_ _) | (simp; done))) (by simp)) (HI.out.fr (X := [w.heap.size + 1, w.heap.size]) H.out (by repeat' (first | (with_reducible first | exact Fr.refl _ _ | refine Fr.setCell ?_ (Or.inl ?_) _ | refine Fr.alloc ?_ _ | refine Fr.drewN ?_ _) | (simp; done))) (by simp)) ⟨[.int .i64 kind, .string ⟨#[]⟩, .string ⟨#[]⟩, .string ⟨#[]⟩, .slice p i cc, .int .i64 0, .slice none 0 0, .int .i64 0], rfl, rep_int.2 ⟨_, rfl, rep_str.2 ⟨_, rfl, rep_str.2 ⟨_, rfl, rep_str.2 ⟨_, rfl, rep_sl.2 ⟨_, _, rfl, (row_own (b := w.heap.size) HV9.out (by first | omega | (simp; done) | (simp; omega)) (X := [w.heap.size + 1, w.heap.size]) (by repeat' (first | (with_reducible first | exact Fr.refl _ _ | refine Fr.setCell ?_ (Or.inl ?_) _ | refine Fr.alloc ?_ _ | refine Fr.drewN ?_ _) | (simp; done))) (by simp)), rep_int.2 ⟨_, rfl, rep_sl.2 ⟨_, _, rfl, RowV.nil _ _ _ _, rep_int.2 ⟨_, rfl, rep_nil.2 rfl⟩⟩⟩⟩⟩⟩⟩⟩⟩
end Go.Proofs.YtpdhiminpdmpiaaGreatDoor
