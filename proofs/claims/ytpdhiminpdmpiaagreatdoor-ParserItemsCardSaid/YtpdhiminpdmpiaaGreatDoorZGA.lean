/-
 The walk of ParserItems.
-/
import Derived.Test.YtpdhiminpdmpiaaGreatDoorZGP0
import Derived.Test.YtpdhiminpdmpiaaGreatDoorZGH1
import Derived.Test.YtpdhiminpdmpiaaGreatDoorZGN10
import Derived.Test.YtpdhiminpdmpiaaGreatDoorZBD
import Derived.Test.YtpdhiminpdmpiaaGreatDoorZV
import Derived.BigQuiet
import Derived.Deep.RegionLaw
set_option linter.unusedVariables false
set_option linter.unusedSimpArgs false
set_option linter.unusedSectionVars false
set_option linter.unusedVariables false
set_option linter.unusedSimpArgs false
set_option linter.unusedSectionVars false
namespace Go.Proofs.YtpdhiminpdmpiaaGreatDoor
open Go.RowKit Go.Lib
open Lx (Tk)
open Px (Txt TyE VarD DataD TraitD BoundD ImplD ArgD ExprD StmtD ArmD FuncD ModD)
/-- a module as the parser lays it, in a world -/
def RIn (w : World) (M : ModD) (cs : List Value) : Prop := Rep w (fun k => k < w.heap.size) (modQ M) cs
theorem RIn.of {w : World} {M : ModD} {cs : List Value} {N : Nat → Prop} (h : Rep w N (modQ M) cs) : RIn w M cs := h.mono (fun k _ hl => ⟨hl, rfl⟩)
theorem RIn.keep {w w' : World} {M : ModD} {cs : List Value} (h : RIn w M cs) (hf : Fr [] w w') : RIn w' M cs := Rep.mono h (fun k hk hl => ⟨Nat.lt_of_lt_of_le hl hf.size, hf.block k hl (by simp)⟩)
theorem RIn.six {w : World} {M : ModD} {cs : List Value} (h : RIn w M cs) : ∃ p1 c1 p2 c2 p3 c3 p4 c4 p5 c5, cs = [.string ⟨M.name.toArray⟩, .slice p1 M.uses.length c1, .slice p2 M.datas.length c2, .slice p3 M.traits.length c3, .slice p4 M.impls.length c4, .slice p5 M.funcs.length c5] := (ModIn.of (ModG.of h)).six
theorem RIn.rows {w : World} {M : ModD} {x v1 v2 v3 v4 v5 : Value} (h : RIn w M [x, v1, v2, v3, v4, v5]) : RowV w (fun k => k < w.heap.size) 65 5 M.datas.length (rowsQ dataQ M.datas) v2 ∧ RowV w (fun k => k < w.heap.size) 61 2 M.traits.length (rowsQ traitQ M.traits) v3 ∧
  RowV w (fun k => k < w.heap.size) 89 8 M.impls.length (rowsQ implQ M.impls) v4 ∧ RowV w (fun k => k < w.heap.size) 54 10 M.funcs.length (rowsQ funcQ M.funcs) v5 := by
 obtain ⟨x', p, d, t, i, f, e, h1, h2, h3, h4⟩ := mod_cells h
 simp only [List.cons.injEq] at e
 obtain ⟨_, _, rfl, rfl, rfl, rfl, _⟩ := e
 exact ⟨h1, h2, h3, h4⟩
theorem RIn.uses {w : World} {M : ModD} {x v1 v2 v3 v4 v5 : Value} (h : RIn w M [x, v1, v2, v3, v4, v5]) : RowG w (fun k => k < w.heap.size) 9 1 M.uses.length (rowsQ strQ M.uses) v1 := by
 obtain ⟨u1, u2, u3, u4, u5, e, h1, _⟩ := ModG.of h
 simp only [List.cons.injEq] at e
 obtain ⟨_, rfl, _⟩ := e
 exact h1
theorem fr_lt {X : List Nat} {w w' : World} (h : Fr X w w') {k : Nat} (hk : k < w.heap.size) : k < w'.heap.size := Nat.lt_of_lt_of_le hk h.size
set_option maxRecDepth 100000 in
set_option maxHeartbeats 3200000 in
/-- what is answered where the law asks nothing -/
theorem pitems_bad (s t : ByteArray) (w : World) (hs : s.size ≤ 140737488355328) (ht : t.size ≤ 140737488355328) (hL : Libs w) (h0 : 0 < w.heap.size)
  (hbad : 1000 < t.size ∨ (Lx.lexL t.data.toList).2.1 ≠ 0 ∨ 1000 < s.size ∨ (errP s.data.toList).1 ≠ 0 ∨ (errP t.data.toList).1 ≠ 0) :
  Calls Tryz.prog 5 #[.string s, .string t] w (PGood w) := by
 have HL := Lib.hid hL
 clear hL
 obtain ⟨pe, px, hpe⟩ : ∃ pe px, errP s.data.toList = (pe, px) := ⟨_, _, rfl⟩
 obtain ⟨qe, qx, hqe⟩ : ∃ pe px, errP t.data.toList = (pe, px) := ⟨_, _, rfl⟩
 obtain ⟨ts, er, at', hr⟩ : ∃ ts er at', Lx.lexL t.data.toList = (ts, er, at') := ⟨_, _, _, rfl⟩
 rw [hpe, hqe, hr] at hbad
 have HPE := Lib.hid hpe
 have HQE := Lib.hid hqe
 have HR := Lib.hid hr
 clear hpe hqe hr
 simp only at hbad
 by_cases hbig : 1000 < t.size
 ·clear hbad
  go_enter Tryz.func5, Tryz.ntmps5
  go_wp2_with fail
  refine (phead_any w HL.out).mono ?_
  rintro e w1 ⟨rfl, hf1⟩
  go_wp2_with fail
  refine (tokens_long t 1000 _ hbig).mono ?_
  rintro e w' ⟨rfl, rfl⟩
  have HF2 := Lib.hid hf1
  clear hf1
  go_wp2_with fail
  refine (parse_errs s _ hs (HL.out.fr HF2.out) _ HPE.out).mono ?_
  rintro e w3 ⟨x1, x2, xn2, xc2, x3, xn3, xc3, x4, xn4, xc4, x5, xn5, xc5, x6, xn6, xc6, rfl, hf3⟩
  have HF3 := Lib.hid ((HF2.out.trans hf3).alloc (.cells #[.string x1, .slice x2 xn2 xc2, .slice x3 xn3 xc3, .slice x4 xn4 xc4, .slice x5 xn5 xc5, .slice x6 xn6 xc6] 29))
  clear hf3
  go_wp2_with fail
  refine (parse_errs t _ ht (HL.out.fr HF3.out) _ HQE.out).mono ?_
  rintro e w4 ⟨y1, y2, yn2, yc2, y3, yn3, yc3, y4, yn4, yc4, y5, yn5, yc5, y6, yn6, yc6, rfl, hf4⟩
  have HF4 := Lib.hid ((HF3.out.trans hf4).alloc (.cells #[.string y1, .slice y2 yn2 yc2, .slice y3 yn3 yc3, .slice y4 yn4 yc4, .slice y5 yn5 yc5, .slice y6 yn6 yc6] 29))
  clear hf4
  go_wp2_with fail
  go_ret
  exact ⟨rfl, HF4.out⟩
 have HSZ : t.size ≤ 1000 := by omega
 by_cases he0 : er = 0
 ·subst he0
  by_cases hs1 : 1000 < s.size
  ·have hd1 : decide ((1000 : Int) < (s.size : Int)) = true := by simp; omega
   clear hbad
   go_enter Tryz.func5, Tryz.ntmps5
   go_wp2_with fail
   refine (phead_any w HL.out).mono ?_
   rintro e w1 ⟨rfl, hf1⟩
   go_wp2_with fail
   refine (tokens_short t 1000 _ HSZ (by decide) (Nat.lt_of_lt_of_le h0 hf1.size)).mono ?_
   rintro e w2 ⟨a, cap, Tb, rfl, hT, hTb, hcap, hf2⟩
   rw [HR.out] at hT hcap
   rw [HR.out]
   have HT := Lib.hid hT
   have HF2 := Lib.hid (hf1.trans hf2)
   have hcap' : ts.length ≤ cap := hcap
   clear hT hf2 hf1 hcap
   go_wp2_with fail
   refine (parse_errs s _ hs (HL.out.fr HF2.out) _ HPE.out).mono ?_
   rintro e w3 ⟨x1, x2, xn2, xc2, x3, xn3, xc3, x4, xn4, xc4, x5, xn5, xc5, x6, xn6, xc6, rfl, hf3⟩
   have HF3 := Lib.hid ((HF2.out.trans hf3).alloc (.cells #[.string x1, .slice x2 xn2 xc2, .slice x3 xn3 xc3, .slice x4 xn4 xc4, .slice x5 xn5 xc5, .slice x6 xn6 xc6] 29))
   clear hf3
   go_wp2_with fail
   refine (parse_errs t _ ht (HL.out.fr HF3.out) _ HQE.out).mono ?_
   rintro e w4 ⟨y1, y2, yn2, yc2, y3, yn3, yc3, y4, yn4, yc4, y5, yn5, yc5, y6, yn6, yc6, rfl, hf4⟩
   have HF4 := Lib.hid ((HF3.out.trans hf4).alloc (.cells #[.string y1, .slice y2 yn2 yc2, .slice y3 yn3 yc3, .slice y4 yn4 yc4, .slice y5 yn5 yc5, .slice y6 yn6 yc6] 29))
   clear hf4
   go_wp2_with fail
   go_ret
   exact ⟨rfl, HF4.out⟩
  have hd1 : decide ((1000 : Int) < (s.size : Int)) = false := by simp; omega
  by_cases hp0 : pe = 0
  ·subst hp0
   have hqz : ((qe : Int) != 0) = true := by rw [bne_iff_ne]; omega
   clear hbad
   go_enter Tryz.func5, Tryz.ntmps5
   go_wp2_with fail
   refine (phead_any w HL.out).mono ?_
   rintro e w1 ⟨rfl, hf1⟩
   go_wp2_with fail
   refine (tokens_short t 1000 _ HSZ (by decide) (Nat.lt_of_lt_of_le h0 hf1.size)).mono ?_
   rintro e w2 ⟨a, cap, Tb, rfl, hT, hTb, hcap, hf2⟩
   rw [HR.out] at hT hcap
   rw [HR.out]
   have HT := Lib.hid hT
   have HF2 := Lib.hid (hf1.trans hf2)
   have hcap' : ts.length ≤ cap := hcap
   clear hT hf2 hf1 hcap
   go_wp2_with fail
   refine (parse_errs s _ hs (HL.out.fr HF2.out) _ HPE.out).mono ?_
   rintro e w3 ⟨x1, x2, xn2, xc2, x3, xn3, xc3, x4, xn4, xc4, x5, xn5, xc5, x6, xn6, xc6, rfl, hf3⟩
   have HF3 := Lib.hid ((HF2.out.trans hf3).alloc (.cells #[.string x1, .slice x2 xn2 xc2, .slice x3 xn3 xc3, .slice x4 xn4 xc4, .slice x5 xn5 xc5, .slice x6 xn6 xc6] 29))
   clear hf3
   go_wp2_with fail
   refine (parse_errs t _ ht (HL.out.fr HF3.out) _ HQE.out).mono ?_
   rintro e w4 ⟨y1, y2, yn2, yc2, y3, yn3, yc3, y4, yn4, yc4, y5, yn5, yc5, y6, yn6, yc6, rfl, hf4⟩
   have HF4 := Lib.hid ((HF3.out.trans hf4).alloc (.cells #[.string y1, .slice y2 yn2 yc2, .slice y3 yn3 yc3, .slice y4 yn4 yc4, .slice y5 yn5 yc5, .slice y6 yn6 yc6] 29))
   clear hf4
   go_wp2_with fail
   go_ret
   exact ⟨rfl, HF4.out⟩
  ·have hpz : ((pe : Int) != 0) = true := by rw [bne_iff_ne]; omega
   clear hbad
   go_enter Tryz.func5, Tryz.ntmps5
   go_wp2_with fail
   refine (phead_any w HL.out).mono ?_
   rintro e w1 ⟨rfl, hf1⟩
   go_wp2_with fail
   refine (tokens_short t 1000 _ HSZ (by decide) (Nat.lt_of_lt_of_le h0 hf1.size)).mono ?_
   rintro e w2 ⟨a, cap, Tb, rfl, hT, hTb, hcap, hf2⟩
   rw [HR.out] at hT hcap
   rw [HR.out]
   have HT := Lib.hid hT
   have HF2 := Lib.hid (hf1.trans hf2)
   have hcap' : ts.length ≤ cap := hcap
   clear hT hf2 hf1 hcap
   go_wp2_with fail
   refine (parse_errs s _ hs (HL.out.fr HF2.out) _ HPE.out).mono ?_
   rintro e w3 ⟨x1, x2, xn2, xc2, x3, xn3, xc3, x4, xn4, xc4, x5, xn5, xc5, x6, xn6, xc6, rfl, hf3⟩
   have HF3 := Lib.hid ((HF2.out.trans hf3).alloc (.cells #[.string x1, .slice x2 xn2 xc2, .slice x3 xn3 xc3, .slice x4 xn4 xc4, .slice x5 xn5 xc5, .slice x6 xn6 xc6] 29))
   clear hf3
   go_wp2_with fail
   refine (parse_errs t _ ht (HL.out.fr HF3.out) _ HQE.out).mono ?_
   rintro e w4 ⟨y1, y2, yn2, yc2, y3, yn3, yc3, y4, yn4, yc4, y5, yn5, yc5, y6, yn6, yc6, rfl, hf4⟩
   have HF4 := Lib.hid ((HF3.out.trans hf4).alloc (.cells #[.string y1, .slice y2 yn2 yc2, .slice y3 yn3 yc3, .slice y4 yn4 yc4, .slice y5 yn5 yc5, .slice y6 yn6 yc6] 29))
   clear hf4
   go_wp2_with fail
   go_ret
   exact ⟨rfl, HF4.out⟩
 ·have hd : ((er : Int) == 0) = false := by rw [beq_eq_false_iff_ne]; omega
  have hdn : (er == 0) = false := by rw [beq_eq_false_iff_ne]; omega
  clear hbad
  go_enter Tryz.func5, Tryz.ntmps5
  go_wp2_with fail
  refine (phead_any w HL.out).mono ?_
  rintro e w1 ⟨rfl, hf1⟩
  go_wp2_with fail
  refine (tokens_short t 1000 _ HSZ (by decide) (Nat.lt_of_lt_of_le h0 hf1.size)).mono ?_
  rintro e w2 ⟨a, cap, Tb, rfl, hT, hTb, hcap, hf2⟩
  rw [HR.out] at hT hcap
  rw [HR.out]
  have HT := Lib.hid hT
  have HF2 := Lib.hid (hf1.trans hf2)
  have hcap' : ts.length ≤ cap := hcap
  clear hT hf2 hf1 hcap
  go_wp2_with fail
  refine (parse_errs s _ hs (HL.out.fr HF2.out) _ HPE.out).mono ?_
  rintro e w3 ⟨x1, x2, xn2, xc2, x3, xn3, xc3, x4, xn4, xc4, x5, xn5, xc5, x6, xn6, xc6, rfl, hf3⟩
  have HF3 := Lib.hid ((HF2.out.trans hf3).alloc (.cells #[.string x1, .slice x2 xn2 xc2, .slice x3 xn3 xc3, .slice x4 xn4 xc4, .slice x5 xn5 xc5, .slice x6 xn6 xc6] 29))
  clear hf3
  go_wp2_with fail
  refine (parse_errs t _ ht (HL.out.fr HF3.out) _ HQE.out).mono ?_
  rintro e w4 ⟨y1, y2, yn2, yc2, y3, yn3, yc3, y4, yn4, yc4, y5, yn5, yc5, y6, yn6, yc6, rfl, hf4⟩
  have HF4 := Lib.hid ((HF3.out.trans hf4).alloc (.cells #[.string y1, .slice y2 yn2 yc2, .slice y3 yn3 yc3, .slice y4 yn4 yc4, .slice y5 yn5 yc5, .slice y6 yn6 yc6] 29))
  clear hf4
  go_wp2_with fail
  go_ret
  exact ⟨rfl, HF4.out⟩
end Go.Proofs.YtpdhiminpdmpiaaGreatDoor
/-
 The walk of ParserItems, where it asks something.
-/
set_option linter.unusedVariables false
set_option linter.unusedSimpArgs false
set_option linter.unusedSectionVars false
namespace Go.Proofs.YtpdhiminpdmpiaaGreatDoor
open Go.RowKit Go.Lib
open Lx (Tk)
open Px (Txt TyE VarD DataD TraitD BoundD ImplD ArgD ExprD StmtD ArmD FuncD ModD)
theorem RowG.none {w : World} {N : Nat → Prop} {E s : Nat} {q : Q} {v : Value} (h : RowG w N E s 0 q v) : ∃ p c, v = .slice p 0 c := h.shape
set_option maxRecDepth 100000 in
set_option maxHeartbeats 3200000 in
/-- .. where the second module uses others -/
theorem pitems_uses (s t : ByteArray) (w : World) (hs : s.size ≤ 140737488355328) (ht : t.size ≤ 140737488355328) (hL : Libs w) (h0 : 0 < w.heap.size) (B : ModD) (ts : List Tk) (hr : Lx.lexL t.data.toList = (ts, 0, 0))
  (hs1 : s.size ≤ 1000) (HSZ : t.size ≤ 1000) (hp : (errP s.data.toList).1 = 0) (hq : Px.parseP t.data.toList = (some B, 0, 0)) (hu : B.uses ≠ []) :
  Calls Tryz.prog 5 #[.string s, .string t] w (PGood w) := by
 have HL := Lib.hid hL
 obtain ⟨pe, px, hpe⟩ : ∃ pe px, errP s.data.toList = (pe, px) := ⟨_, _, rfl⟩
 rw [hpe] at hp
 simp only at hp
 subst hp
 have HPE := Lib.hid hpe
 have HR := Lib.hid hr
 have HQ := Lib.hid hq
 have hd1 : decide ((1000 : Int) < (s.size : Int)) = false := by simp; omega
 have hul : 0 < B.uses.length := List.length_pos_iff.2 hu
 have hdu : decide ((0 : Int) < (B.uses.length : Int)) = true := by simp; omega
 clear hL hpe hr hq
 go_enter Tryz.func5, Tryz.ntmps5
 go_wp2_with fail
 refine (phead_any w HL.out).mono ?_
 rintro e w1 ⟨rfl, hf1⟩
 go_wp2_with fail
 refine (tokens_short t 1000 _ HSZ (by decide) (Nat.lt_of_lt_of_le h0 hf1.size)).mono ?_
 rintro e w2 ⟨a, cap, Tb, rfl, hT, hTb, hcap, hf2⟩
 rw [HR.out] at hT hcap
 rw [HR.out]
 have HT := Lib.hid hT
 have HF2 := Lib.hid (hf1.trans hf2)
 have hcap' : ts.length ≤ cap := hcap
 clear hT hf2 hf1 hcap
 go_wp2_with fail
 refine (parse_errs s _ hs (HL.out.fr HF2.out) _ HPE.out).mono ?_
 rintro e w3 ⟨x1, x2, xn2, xc2, x3, xn3, xc3, x4, xn4, xc4, x5, xn5, xc5, x6, xn6, xc6, rfl, hf3⟩
 have HF3 := Lib.hid ((HF2.out.trans hf3).alloc (.cells #[.string x1, .slice x2 xn2 xc2, .slice x3 xn3 xc3, .slice x4 xn4 xc4, .slice x5 xn5 xc5, .slice x6 xn6 xc6] 29))
 clear hf3
 go_wp2_with fail
 refine (parse_spec t _ ht (HL.out.fr HF3.out) _ HQ.out).mono ?_
 rintro e w4 ⟨hf4, cs, rfl, hrep⟩
 obtain ⟨b1, bc1, b2, bc2, b3, bc3, b4, bc4, b5, bc5, rfl⟩ := (ModIn.of (ModG.of hrep)).six
 have HF4 := Lib.hid ((HF3.out.trans hf4).alloc (.cells #[.string ⟨B.name.toArray⟩, .slice b1 B.uses.length bc1, .slice b2 B.datas.length bc2, .slice b3 B.traits.length bc3, .slice b4 B.impls.length bc4, .slice b5 B.funcs.length bc5] 29))
 clear hf4 hrep
 go_wp2_with fail
 go_ret
 exact ⟨rfl, HF4.out⟩
end Go.Proofs.YtpdhiminpdmpiaaGreatDoor
