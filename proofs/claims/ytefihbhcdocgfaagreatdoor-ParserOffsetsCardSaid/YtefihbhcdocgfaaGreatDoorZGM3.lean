/-
  The walk of read: a panic that is recovered.
-/
import Derived.Test.YtefihbhcdocgfaaGreatDoorZGM2
import Derived.Defers
import Derived.Recover
set_option linter.unusedVariables false
set_option linter.unusedSimpArgs false
set_option linter.unusedSectionVars false

namespace Go.Proofs.YtefihbhcdocgfaaGreatDoor
open Go.RowKit Go.Lib
open Lx (Tk)
open Px (Txt TyE VarD DataD TraitD BoundD ImplD ArgD ExprD StmtD ArmD FuncD ModD)

theorem assert_failure (v : Value) (w : World) : (Instr.typeAssert (.iface 101 v) 20 101 true).run Tryz.prog w = .ok (.tuple #[v, .bool true]) w := by
  kernel_rfl
theorem catch_idle (p q r s : Addr) (w : World) :
    CallsD Tryz.prog 28 #[.pointer (some p), .pointer (some q), .pointer (some r), .pointer (some s)] .returning w fun e u' w' => e = .returned (.tuple #[]) ∧ u' = .returning ∧ w' = w := by
  refine callsD_of_wpS Tryz.func28 rfl fun c₀ cs hu => ?_
  apply wpS_seq
  apply wpS_region
  simp [wpOpsS, go_sem, recoverD, hu, Tryz.ntmps28, Exit.thenS]
  refine wpS_of_wp ?_
  rw [show (#[Value.pointer (some p), Value.pointer (some q), Value.pointer (some r), Value.pointer (some s)] ++ (Array.replicate 16 undef).setIfInBounds 3 Value.nilIface) = #[.pointer (some p), .pointer (some q), .pointer (some r), .pointer (some s), undef, undef, undef, .nilIface, undef, undef, undef, undef, undef, undef, undef, undef, undef, undef, undef, undef] from by simp [Array.replicate]]
  go_wp2_with fail
  all_goals
    cases c₀
    simp_all [bodyPostS, results, Tryz.results28]

/-- what the closure leaves after a failure -/
def Caught (p q r : Nat) (x y : Int) (w : World) (e : Ending) (u' : FrameMode) (w' : World) : Prop :=
  e = .returned (.tuple #[]) ∧ u' = .panicking [{ v := .iface 101 (.agg #[.int .i64 x, .int .i64 y]), recovered := true }] ∧ Fr [p, q, r] w w' ∧
  Blk w' p 29 #[.string ⟨#[]⟩, .slice none 0 0, .slice none 0 0, .slice none 0 0, .slice none 0 0, .slice none 0 0] ∧ Blk w' q 30 #[.int .i64 x] ∧ Blk w' r 3 #[.int .i64 y]
set_option maxRecDepth 100000 in
set_option maxHeartbeats 1600000 in
theorem catch_panicking (p q r s : Nat) (x y z1 z2 : Int) (m0 m1 m2 m3 m4 m5 : Value) (w : World) (hp : Blk w p 29 #[m0, m1, m2, m3, m4, m5]) (hq : Blk w q 30 #[.int .i64 z1]) (hr : Blk w r 3 #[.int .i64 z2]) (h1 : p ≠ q) (h2 : p ≠ r) (h3 : q ≠ r) :
    CallsD Tryz.prog 28 #[.pointer (some ⟨p, 0, none⟩), .pointer (some ⟨q, 0, none⟩), .pointer (some ⟨r, 0, none⟩), .pointer (some ⟨s, 0, none⟩)] (.panicking [{ v := .iface 101 (.agg #[.int .i64 x, .int .i64 y]), recovered := false }]) w (Caught p q r x y w) := by
  have p0 : w.cell? ⟨p, 0, none⟩ = some m0 := hp.cell 0
  have pf0 : w.frozen? ⟨p, 0, none⟩ = false := hp.frozen 0
  have p1 : w.cell? ⟨p, 1, none⟩ = some m1 := hp.cell 1
  have pf1 : w.frozen? ⟨p, 1, none⟩ = false := hp.frozen 1
  have p2 : w.cell? ⟨p, 2, none⟩ = some m2 := hp.cell 2
  have pf2 : w.frozen? ⟨p, 2, none⟩ = false := hp.frozen 2
  have p3 : w.cell? ⟨p, 3, none⟩ = some m3 := hp.cell 3
  have pf3 : w.frozen? ⟨p, 3, none⟩ = false := hp.frozen 3
  have p4 : w.cell? ⟨p, 4, none⟩ = some m4 := hp.cell 4
  have pf4 : w.frozen? ⟨p, 4, none⟩ = false := hp.frozen 4
  have p5 : w.cell? ⟨p, 5, none⟩ = some m5 := hp.cell 5
  have pf5 : w.frozen? ⟨p, 5, none⟩ = false := hp.frozen 5
  have q0 : w.cell? ⟨q, 0, none⟩ = some (.int .i64 z1) := hq.cell 0
  have qf0 : w.frozen? ⟨q, 0, none⟩ = false := hq.frozen 0
  have r0 : w.cell? ⟨r, 0, none⟩ = some (.int .i64 z2) := hr.cell 0
  have rf0 : w.frozen? ⟨r, 0, none⟩ = false := hr.frozen 0
  have lp : p < w.heap.size := hp.lt
  have hta := assert_failure
  have lq : q < w.heap.size := hq.lt
  have lr : r < w.heap.size := hr.lt
  have h1' : q ≠ p := fun e => h1 e.symm
  have h2' : r ≠ p := fun e => h2 e.symm
  have h3' : r ≠ q := fun e => h3 e.symm
  have HP := Lib.hid hp
  have HQ := Lib.hid hq
  have HR := Lib.hid hr
  clear hp hq hr
  refine callsD_of_wpS Tryz.func28 rfl fun c₀ cs hu => ?_
  apply wpS_seq
  apply wpS_region
  simp [wpOpsS, go_sem, recoverD, hu, Tryz.ntmps28, Exit.thenS]
  refine wpS_of_wp ?_
  rw [show (#[Value.pointer (some ⟨p, 0, none⟩), Value.pointer (some ⟨q, 0, none⟩), Value.pointer (some ⟨r, 0, none⟩), Value.pointer (some ⟨s, 0, none⟩)] ++ (Array.replicate 16 undef).setIfInBounds 3 (Value.iface 101 (Value.agg #[Value.int IntKind.i64 x, Value.int IntKind.i64 y]))) = #[.pointer (some ⟨p, 0, none⟩), .pointer (some ⟨q, 0, none⟩), .pointer (some ⟨r, 0, none⟩), .pointer (some ⟨s, 0, none⟩), undef, undef, undef, Value.iface 101 (Value.agg #[Value.int IntKind.i64 x, Value.int IntKind.i64 y]), undef, undef, undef, undef, undef, undef, undef, undef, undef, undef, undef, undef] from by simp [Array.replicate]]
  go_upto_region 7 with fail
  clear p0 p1 p2 p3 p4 p5 pf0 pf1 pf2 pf3 pf4 pf5 q0 qf0 r0 rf0
  obtain ⟨F, hF⟩ : ∃ F, F = w.heap.size := ⟨_, rfl⟩
  have hpF : p ≠ F := by omega
  have hqF : q ≠ F := by omega
  have hrF : r ≠ F := by omega
  have HF1 : Hid (Fr [p, q, r] w (w.alloc (.cells #[.int .i64 x, .int .i64 y] 101))) := Lib.hid ((Fr.refl _ _).alloc _)
  have HP1 := Lib.hid (HP.out.alloc (.cells #[.int .i64 x, .int .i64 y] 101))
  have HQ1 := Lib.hid (HQ.out.alloc (.cells #[.int .i64 x, .int .i64 y] 101))
  have HR1 := Lib.hid (HR.out.alloc (.cells #[.int .i64 x, .int .i64 y] 101))
  have HX1 : Hid (Blk (w.alloc (.cells #[.int .i64 x, .int .i64 y] 101)) F 101 #[.int .i64 x, .int .i64 y]) := Lib.hid (by rw [hF]; exact Blk.new _ _ _)
  have hws : Hid (F < (w.alloc (.cells #[.int .i64 x, .int .i64 y] 101)).heap.size) := Lib.hid (by rw [hF]; simp)
  rw [← hF]
  generalize w.alloc (.cells #[.int .i64 x, .int .i64 y] 101) = w1 at *
  clear hF lp lq lr hta
  have p0 : w1.cell? ⟨p, 0, none⟩ = some m0 := HP1.out.cell 0
  have pf0 : w1.frozen? ⟨p, 0, none⟩ = false := HP1.out.frozen 0
  have p1 : w1.cell? ⟨p, 1, none⟩ = some m1 := HP1.out.cell 1
  have pf1 : w1.frozen? ⟨p, 1, none⟩ = false := HP1.out.frozen 1
  have p2 : w1.cell? ⟨p, 2, none⟩ = some m2 := HP1.out.cell 2
  have pf2 : w1.frozen? ⟨p, 2, none⟩ = false := HP1.out.frozen 2
  have p3 : w1.cell? ⟨p, 3, none⟩ = some m3 := HP1.out.cell 3
  have pf3 : w1.frozen? ⟨p, 3, none⟩ = false := HP1.out.frozen 3
  have p4 : w1.cell? ⟨p, 4, none⟩ = some m4 := HP1.out.cell 4
  have pf4 : w1.frozen? ⟨p, 4, none⟩ = false := HP1.out.frozen 4
  have p5 : w1.cell? ⟨p, 5, none⟩ = some m5 := HP1.out.cell 5
  have pf5 : w1.frozen? ⟨p, 5, none⟩ = false := HP1.out.frozen 5
  have q0 : w1.cell? ⟨q, 0, none⟩ = some (.int .i64 z1) := HQ1.out.cell 0
  have qf0 : w1.frozen? ⟨q, 0, none⟩ = false := HQ1.out.frozen 0
  have r0 : w1.cell? ⟨r, 0, none⟩ = some (.int .i64 z2) := HR1.out.cell 0
  have rf0 : w1.frozen? ⟨r, 0, none⟩ = false := HR1.out.frozen 0
  have x0 : w1.cell? ⟨F, 0, none⟩ = some (.int .i64 x) := HX1.out.cell 0
  have x1 : w1.cell? ⟨F, 1, none⟩ = some (.int .i64 y) := HX1.out.cell 1
  go_region
  clear p0 p1 p2 p3 p4 p5 pf0 pf1 pf2 pf3 pf4 pf5 q0 qf0 r0 rf0 x0 x1
  have g0 := Blk.set HP1.out 0 (.string ⟨#[]⟩)
  have g1 := Blk.set g0 1 (.slice none 0 0)
  have g2 := Blk.set g1 2 (.slice none 0 0)
  have g3 := Blk.set g2 3 (.slice none 0 0)
  have g4 := Blk.set g3 4 (.slice none 0 0)
  have g5 := Blk.set g4 5 (.slice none 0 0)
  have g6 := Blk.other g5 (p := ⟨q, 0, none⟩) h1 (.int .i64 x)
  have g7 := Blk.other g6 (p := ⟨r, 0, none⟩) h2 (.int .i64 y)
  have k0 := Blk.other HQ1.out (p := ⟨p, 0, none⟩) h1' (.string ⟨#[]⟩)
  have k1 := Blk.other k0 (p := ⟨p, 1, none⟩) h1' (.slice none 0 0)
  have k2 := Blk.other k1 (p := ⟨p, 2, none⟩) h1' (.slice none 0 0)
  have k3 := Blk.other k2 (p := ⟨p, 3, none⟩) h1' (.slice none 0 0)
  have k4 := Blk.other k3 (p := ⟨p, 4, none⟩) h1' (.slice none 0 0)
  have k5 := Blk.other k4 (p := ⟨p, 5, none⟩) h1' (.slice none 0 0)
  have k6 := Blk.other (Blk.set k5 0 (.int .i64 x)) (p := ⟨r, 0, none⟩) h3 (.int .i64 y)
  have r0 := Blk.other HR1.out (p := ⟨p, 0, none⟩) h2' (.string ⟨#[]⟩)
  have r1 := Blk.other r0 (p := ⟨p, 1, none⟩) h2' (.slice none 0 0)
  have r2 := Blk.other r1 (p := ⟨p, 2, none⟩) h2' (.slice none 0 0)
  have r3 := Blk.other r2 (p := ⟨p, 3, none⟩) h2' (.slice none 0 0)
  have r4 := Blk.other r3 (p := ⟨p, 4, none⟩) h2' (.slice none 0 0)
  have r5 := Blk.other r4 (p := ⟨p, 5, none⟩) h2' (.slice none 0 0)
  have r6 := Blk.set (Blk.other r5 (p := ⟨q, 0, none⟩) h3' (.int .i64 x)) 0 (.int .i64 y)
  have hfin : Fr [p, q, r] w1 ((((((((w1.setCell ⟨p, 0, none⟩ (.string ⟨#[]⟩)).setCell ⟨p, 1, none⟩ (.slice none 0 0)).setCell ⟨p, 2, none⟩ (.slice none 0 0)).setCell ⟨p, 3, none⟩ (.slice none 0 0)).setCell ⟨p, 4, none⟩ (.slice none 0 0)).setCell ⟨p, 5, none⟩ (.slice none 0 0)).setCell ⟨q, 0, none⟩ (.int .i64 x)).setCell ⟨r, 0, none⟩ (.int .i64 y)) := by
    repeat' (first | with_reducible exact Fr.refl _ _ | with_reducible refine Fr.setCell ?_ (Or.inl ?_) _ | (simp; done))
  have G7 := Lib.hid g7
  have K6 := Lib.hid k6
  have R6 := Lib.hid r6
  have HFIN := Lib.hid hfin
  clear g0 g1 g2 g3 g4 g5 g6 g7 k0 k1 k2 k3 k4 k5 k6 r0 r1 r2 r3 r4 r5 r6 hfin HP HQ HR HP1 HQ1 HR1 HX1 hws
  generalize (((((((w1.setCell ⟨p, 0, none⟩ (.string ⟨#[]⟩)).setCell ⟨p, 1, none⟩ (.slice none 0 0)).setCell ⟨p, 2, none⟩ (.slice none 0 0)).setCell ⟨p, 3, none⟩ (.slice none 0 0)).setCell ⟨p, 4, none⟩ (.slice none 0 0)).setCell ⟨p, 5, none⟩ (.slice none 0 0)).setCell ⟨q, 0, none⟩ (.int .i64 x)).setCell ⟨r, 0, none⟩ (.int .i64 y) = w2 at *
  have hpost : Caught p q r x y w (.returned (.tuple #[])) (.panicking [{ v := .iface 101 (.agg #[.int .i64 x, .int .i64 y]), recovered := true }]) w2.drew := ⟨rfl, rfl, (HF1.out.trans HFIN.out).drew, G7.out, K6.out, R6.out⟩
  exact ⟨rfl, _, rfl, .tuple #[], results_none rfl _ _ _, hpost⟩

/-- what read comes to: the module's data, the error, the offset -/
def ReadPost (c : Ctx) (w : World) (r : Px.Res ModD) (e : Ending) (w' : World) : Prop :=
  Fr [c.R] w w' ∧
  match r with
  | .ok M _ => ∃ cs, e = .returned (.tuple #[.agg cs.toArray, .int .i64 0, .int .i64 0]) ∧ Rep w' (fun k => w.heap.size ≤ k) (modQ M) cs
  | .bad ts => e = .returned (.tuple #[.agg #[.string ⟨#[]⟩, .slice none 0 0, .slice none 0 0, .slice none 0 0, .slice none 0 0, .slice none 0 0], .int .i64 (errOf ts), .int .i64 (offOf c.size ts)])
set_option maxRecDepth 100000 in
set_option maxHeartbeats 1600000 in
theorem read_any (c : Ctx) (ts : List Tk) (w : World) (h : Inv c ts w) (n : Nat) (hm : ts.length < n) :
    Calls Tryz.prog 20 #[.pointer (some ⟨c.R, 0, none⟩)] w (ReadPost c w (Px.module c.size n ts)) := by
  have hmf : ∀ (fn : Fn) (first cap : Array Value) (w : World), (Instr.makeFunc fn first cap).run Tryz.prog w = .ok (.func fn first cap) w := fun _ _ _ _ => rfl
  have H := Lib.hid h
  have HR0 := H.out.lt.1
  clear h
  go_enter_defers Tryz.func20, Tryz.ntmps20
  go_wp2_with fail
  have hin : Inv c ts ((((w.alloc (.cells #[.pointer (some ⟨c.R, 0, none⟩)] 78)).alloc (.cells #[.string ⟨#[]⟩, .slice none 0 0, .slice none 0 0, .slice none 0 0, .slice none 0 0, .slice none 0 0] 29)).alloc (.cells #[.int .i64 0] 30)).alloc (.cells #[.int .i64 0] 3)) := (((H.out.alloc _).alloc _).alloc _).alloc _
  have hfr : Fr [] w ((((w.alloc (.cells #[.pointer (some ⟨c.R, 0, none⟩)] 78)).alloc (.cells #[.string ⟨#[]⟩, .slice none 0 0, .slice none 0 0, .slice none 0 0, .slice none 0 0, .slice none 0 0] 29)).alloc (.cells #[.int .i64 0] 30)).alloc (.cells #[.int .i64 0] 3)) := ((((Fr.refl _ _).alloc _).alloc _).alloc _).alloc _
  have hbm : Blk ((((w.alloc (.cells #[.pointer (some ⟨c.R, 0, none⟩)] 78)).alloc (.cells #[.string ⟨#[]⟩, .slice none 0 0, .slice none 0 0, .slice none 0 0, .slice none 0 0, .slice none 0 0] 29)).alloc (.cells #[.int .i64 0] 30)).alloc (.cells #[.int .i64 0] 3)) (w.heap.size + 1) 29 #[.string ⟨#[]⟩, .slice none 0 0, .slice none 0 0, .slice none 0 0, .slice none 0 0, .slice none 0 0] := ((Blk.new_at (by simp)).alloc _).alloc _
  have hbe : Blk ((((w.alloc (.cells #[.pointer (some ⟨c.R, 0, none⟩)] 78)).alloc (.cells #[.string ⟨#[]⟩, .slice none 0 0, .slice none 0 0, .slice none 0 0, .slice none 0 0, .slice none 0 0] 29)).alloc (.cells #[.int .i64 0] 30)).alloc (.cells #[.int .i64 0] 3)) (w.heap.size + 1 + 1) 30 #[.int .i64 0] := (Blk.new_at (by simp)).alloc _
  have hbi : Blk ((((w.alloc (.cells #[.pointer (some ⟨c.R, 0, none⟩)] 78)).alloc (.cells #[.string ⟨#[]⟩, .slice none 0 0, .slice none 0 0, .slice none 0 0, .slice none 0 0, .slice none 0 0] 29)).alloc (.cells #[.int .i64 0] 30)).alloc (.cells #[.int .i64 0] 3)) (w.heap.size + 1 + 1 + 1) 3 #[.int .i64 0] := Blk.new_at (by simp)
  have hsz : w.heap.size + 4 ≤ ((((w.alloc (.cells #[.pointer (some ⟨c.R, 0, none⟩)] 78)).alloc (.cells #[.string ⟨#[]⟩, .slice none 0 0, .slice none 0 0, .slice none 0 0, .slice none 0 0, .slice none 0 0] 29)).alloc (.cells #[.int .i64 0] 30)).alloc (.cells #[.int .i64 0] 3)).heap.size := by simp
  generalize (((w.alloc (.cells #[.pointer (some ⟨c.R, 0, none⟩)] 78)).alloc (.cells #[.string ⟨#[]⟩, .slice none 0 0, .slice none 0 0, .slice none 0 0, .slice none 0 0, .slice none 0 0] 29)).alloc (.cells #[.int .i64 0] 30)).alloc (.cells #[.int .i64 0] 3) = w1 at *
  refine (module_any c ts w1 hin n hm).mono ?_
  have HFR := Lib.hid hfr
  have HBM := Lib.hid hbm
  have HBE := Lib.hid hbe
  have HBI := Lib.hid hbi
  clear hin hfr hbm hbe hbi
  rintro e w2 hp
  rcases hp.cases with ⟨M, ts2, v, hq, hf, hi, rfl, hv⟩ | ⟨ts2, hq, hf, hi, rfl⟩
  · obtain ⟨cs, rfl, hrep⟩ := hv
    obtain ⟨y1, y2, y3, y4, y5, y6, rfl⟩ := cells_6 (hrep.len.trans rfl)
    obtain ⟨s1, rfl⟩ := hrep.kind 0 rfl (kind_modQ M 0 rfl)
    obtain ⟨p2, n2, c2, rfl⟩ := hrep.kind 1 rfl (kind_modQ M 1 rfl)
    obtain ⟨p3, n3, c3, rfl⟩ := hrep.kind 2 rfl (kind_modQ M 2 rfl)
    obtain ⟨p4, n4, c4, rfl⟩ := hrep.kind 3 rfl (kind_modQ M 3 rfl)
    obtain ⟨p5, n5, c5, rfl⟩ := hrep.kind 4 rfl (kind_modQ M 4 rfl)
    obtain ⟨p6, n6, c6, rfl⟩ := hrep.kind 5 rfl (kind_modQ M 5 rfl)
    have HBM2 := Lib.hid (HBM.out.keep hf (by simp; omega))
    have HBE2 := Lib.hid (HBE.out.keep hf (by simp; omega))
    have HBI2 := Lib.hid (HBI.out.keep hf (by simp; omega))
    have HREP := Lib.hid hrep
    have HF2 : Hid (Fr [c.R] w w2) := Lib.hid ((HFR.out.mono (fun k _ hk => by cases hk)).trans hf)
    have hz2 : w.heap.size + 4 ≤ w2.heap.size := Nat.le_trans hsz hf.size
    have HQ := Lib.hid hq.out
    clear hp hf hi hrep hq
    have a0 : w2.cell? ⟨w.heap.size + 1, 0, none⟩ = some (.string ⟨#[]⟩) := HBM2.out.cell 0
    have af0 : w2.frozen? ⟨w.heap.size + 1, 0, none⟩ = false := HBM2.out.frozen 0
    have a1 : w2.cell? ⟨w.heap.size + 1, 1, none⟩ = some (.slice none 0 0) := HBM2.out.cell 1
    have af1 : w2.frozen? ⟨w.heap.size + 1, 1, none⟩ = false := HBM2.out.frozen 1
    have a2 : w2.cell? ⟨w.heap.size + 1, 2, none⟩ = some (.slice none 0 0) := HBM2.out.cell 2
    have af2 : w2.frozen? ⟨w.heap.size + 1, 2, none⟩ = false := HBM2.out.frozen 2
    have a3 : w2.cell? ⟨w.heap.size + 1, 3, none⟩ = some (.slice none 0 0) := HBM2.out.cell 3
    have af3 : w2.frozen? ⟨w.heap.size + 1, 3, none⟩ = false := HBM2.out.frozen 3
    have a4 : w2.cell? ⟨w.heap.size + 1, 4, none⟩ = some (.slice none 0 0) := HBM2.out.cell 4
    have af4 : w2.frozen? ⟨w.heap.size + 1, 4, none⟩ = false := HBM2.out.frozen 4
    have a5 : w2.cell? ⟨w.heap.size + 1, 5, none⟩ = some (.slice none 0 0) := HBM2.out.cell 5
    have af5 : w2.frozen? ⟨w.heap.size + 1, 5, none⟩ = false := HBM2.out.frozen 5
    have b0 : w2.cell? ⟨w.heap.size + 1 + 1, 0, none⟩ = some (.int .i64 0) := HBE2.out.cell 0
    have bf0 : w2.frozen? ⟨w.heap.size + 1 + 1, 0, none⟩ = false := HBE2.out.frozen 0
    have i0 : w2.cell? ⟨w.heap.size + 1 + 1 + 1, 0, none⟩ = some (.int .i64 0) := HBI2.out.cell 0
    have if0 : w2.frozen? ⟨w.heap.size + 1 + 1 + 1, 0, none⟩ = false := HBI2.out.frozen 0
    have hza : w.heap.size + 1 < w2.heap.size := by omega
    have hzb : w.heap.size + 1 + 1 < w2.heap.size := by omega
    have hzc : w.heap.size + 1 + 1 + 1 < w2.heap.size := by omega
    go_wp2_with fail
    refine leaves_cons (f := 28) (args := #[.pointer (some ⟨w.heap.size + 1, 0, none⟩), .pointer (some ⟨w.heap.size + 1 + 1, 0, none⟩), .pointer (some ⟨w.heap.size + 1 + 1 + 1, 0, none⟩), .pointer (some ⟨w.heap.size, 0, none⟩)]) (by simp) (by kernel_rfl) ?_
    refine (catch_idle ⟨w.heap.size + 1, 0, none⟩ _ _ _ _).mono ?_
    rintro e u' w3 ⟨rfl, rfl, rfl⟩
    refine ⟨.tuple #[.agg #[.string s1, .slice p2 n2 c2, .slice p3 n3 c3, .slice p4 n4 c4, .slice p5 n5 c5, .slice p6 n6 c6], .int .i64 0, .int .i64 0], by simp [results, Tryz.results20, go_sem, a0, a1, a2, a3, a4, a5, b0, i0, hza, hzb, hzc], ?_⟩
    clear a0 a1 a2 a3 a4 a5 af0 af1 af2 af3 af4 af5 b0 bf0 i0 if0
    have hfs : Fr [w.heap.size + 1, w.heap.size + 1 + 1, w.heap.size + 1 + 1 + 1] w2 ((((((((w2.setCell ⟨w.heap.size + 1, 0, none⟩ (.string s1)).setCell ⟨w.heap.size + 1, 1, none⟩ (.slice p2 n2 c2)).setCell ⟨w.heap.size + 1, 2, none⟩ (.slice p3 n3 c3)).setCell ⟨w.heap.size + 1, 3, none⟩ (.slice p4 n4 c4)).setCell ⟨w.heap.size + 1, 4, none⟩ (.slice p5 n5 c5)).setCell ⟨w.heap.size + 1, 5, none⟩ (.slice p6 n6 c6)).setCell ⟨w.heap.size + 1 + 1, 0, none⟩ (.int .i64 0)).setCell ⟨w.heap.size + 1 + 1 + 1, 0, none⟩ (.int .i64 0)) := by
      repeat' (first | with_reducible exact Fr.refl _ _ | with_reducible refine Fr.setCell ?_ (Or.inl ?_) _ | (simp; done))
    refine ⟨HF2.out.join (X := [w.heap.size + 1, w.heap.size + 1 + 1, w.heap.size + 1 + 1 + 1]) (hfs.mono (fun k _ hk => by simp at hk; simp; omega)) (by simp; omega), ?_⟩
    rw [HQ.out]
    exact ⟨_, rfl, rep_own (b := w.heap.size) HREP.out (X := [w.heap.size + 1, w.heap.size + 1 + 1, w.heap.size + 1 + 1 + 1]) hfs (by simp; omega) (by omega)⟩
  · have HBM2 := HBM.out.keep hf (by simp; omega)
    have HBE2 := HBE.out.keep hf (by simp; omega)
    have HBI2 := HBI.out.keep hf (by simp; omega)
    have hF2 : Fr [c.R] w w2 := (HFR.out.mono (fun k _ hk => by cases hk)).trans hf
    have HQ := Lib.hid hq.out
    clear hp
    refine leaves_cons (f := 28) (args := #[.pointer (some ⟨w.heap.size + 1, 0, none⟩), .pointer (some ⟨w.heap.size + 1 + 1, 0, none⟩), .pointer (some ⟨w.heap.size + 1 + 1 + 1, 0, none⟩), .pointer (some ⟨w.heap.size, 0, none⟩)]) (by simp) (by kernel_rfl) ?_
    refine (catch_panicking _ _ _ _ _ _ _ _ _ _ _ _ _ _ _ HBM2 HBE2 HBI2 (by omega) (by omega) (by omega)).mono ?_
    rintro e u' w3 ⟨rfl, rfl, hf3, hb1, hb2, hb3⟩
    have a0 : w3.cell? ⟨w.heap.size + 1, 0, none⟩ = some (.string ⟨#[]⟩) := hb1.cell 0
    have a1 : w3.cell? ⟨w.heap.size + 1, 1, none⟩ = some (.slice none 0 0) := hb1.cell 1
    have a2 : w3.cell? ⟨w.heap.size + 1, 2, none⟩ = some (.slice none 0 0) := hb1.cell 2
    have a3 : w3.cell? ⟨w.heap.size + 1, 3, none⟩ = some (.slice none 0 0) := hb1.cell 3
    have a4 : w3.cell? ⟨w.heap.size + 1, 4, none⟩ = some (.slice none 0 0) := hb1.cell 4
    have a5 : w3.cell? ⟨w.heap.size + 1, 5, none⟩ = some (.slice none 0 0) := hb1.cell 5
    have b0 : w3.cell? ⟨w.heap.size + 1 + 1, 0, none⟩ = some (.int .i64 (errOf ts2)) := hb2.cell 0
    have i0 : w3.cell? ⟨w.heap.size + 1 + 1 + 1, 0, none⟩ = some (.int .i64 (offOf c.size ts2)) := hb3.cell 0
    have hza := hb1.lt
    have hzb := hb2.lt
    have hzc := hb3.lt
    refine ⟨.tuple #[.agg #[.string ⟨#[]⟩, .slice none 0 0, .slice none 0 0, .slice none 0 0, .slice none 0 0, .slice none 0 0], .int .i64 (errOf ts2), .int .i64 (offOf c.size ts2)], by simp [results, Tryz.results20, go_sem, a0, a1, a2, a3, a4, a5, b0, i0, hza, hzb, hzc], ?_⟩
    refine ⟨hF2.join (X := [w.heap.size + 1, w.heap.size + 1 + 1, w.heap.size + 1 + 1 + 1]) (hf3.mono (fun k _ hk => by simp at hk; simp; omega)) (by simp; omega), ?_⟩
    rw [HQ.out]
end Go.Proofs.YtefihbhcdocgfaaGreatDoor
