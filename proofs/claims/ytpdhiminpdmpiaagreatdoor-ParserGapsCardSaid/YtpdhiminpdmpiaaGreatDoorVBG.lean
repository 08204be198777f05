/-
 The walk of Parse.
-/
import Derived.Test.YtpdhiminpdmpiaaGreatDoorVGM4
import Derived.Test.YtpdhiminpdmpiaaGreatDoorVE
import Derived.Test.YtpdhiminpdmpiaaGreatDoorVA
set_option linter.unusedVariables false
set_option linter.unusedSimpArgs false
set_option linter.unusedSectionVars false
set_option linter.unusedVariables false
set_option linter.unusedSimpArgs false
set_option linter.unusedSectionVars false
namespace Go.Proofs.YtpdhiminpdmpiaaGreatDoor
open Go.RowKit Go.Lib
open Lx (Tk)
open Px (Txt TyE VarD DataD TraitD BoundD ImplD ArgD ExprD StmtD ArmD FuncD ModD)
abbrev zeroM : Value := .agg #[.string ⟨#[]⟩, .slice none 0 0, .slice none 0 0, .slice none 0 0, .slice none 0 0, .slice none 0 0]
/-- what Parse comes to -/
def ParsePost (w : World) (r : Option ModD × Nat × Nat) (e : Ending) (w' : World) : Prop :=
 Fr [] w w' ∧
 match r with
 | (some M, _, _) => ∃ cs, e = .returned (.tuple #[.agg cs.toArray, .int .i64 0, .int .i64 0]) ∧ Rep w' (fun k => w.heap.size ≤ k) (modQ M) cs
 | (none, er, at') => e = .returned (.tuple #[zeroM, .int .i64 er, .int .i64 at'])
theorem toks_get : ∀ (ts : List Tk) (i : Nat) (t : Tk), ts[i]? = some t → ∀ j, j < 4 → (tksCells ts)[i * 4 + j]? = (tokCells t)[j]? := by
 intro ts
 induction ts with
 | nil => intro i t h; simp at h
 | cons u r ih =>
  intro i t h j hj
  cases i with
  | zero =>
   simp at h; subst h
   match j, hj with
   | 0, _ => rfl
   | 1, _ => rfl
   | 2, _ => rfl
   | 3, _ => rfl
  | succ i =>
   simp at h
   have := ih i t h j hj
   rw [← this]
   show (tksCells (u :: r))[(i + 1) * 4 + j]? = _
   have e : tksCells (u :: r) = tokCells u ++ tksCells r := rfl
   rw [e, List.getElem?_append_right (by simp [tokCells]; omega)]
   congr 1
   simp [tokCells]; omega
theorem tok_num (l : List UInt8) : (Lx.tokAt l).2.2 ≤ 1000000000 := by
 unfold Lx.tokAt
 repeat' split
 all_goals first | (simp; done) | (simp at *; omega)
theorem lex_facts {l : List UInt8} {ts : List Tk} {at' : Nat} (h : Lx.lexL l = (ts, 0, at')) : at' = 0 ∧ l.length ≤ 20000 ∧ ts.length ≤ 6000 ∧ (∀ t ∈ ts, t.num ≤ 1000000000) ∧ (∀ t ∈ ts, t.text.length ≤ 20000) := by
 obtain ⟨h1, h2, h3, h4⟩ := Lx.lex_chain l (by rw [h])
 rw [h] at h2 h3 h4
 simp only at h2 h3 h4
 refine ⟨h2, h1, h3, ?_, ?_⟩
 ·intro t ht
  obtain ⟨i, hi, hx⟩ := List.getElem_of_mem ht
  obtain ⟨_, g2, _, _, _⟩ := Lx.chain_at l ts _ i t h4 (by rw [List.getElem?_eq_getElem hi, hx])
  have := tok_num (l.drop t.off)
  rw [g2] at this
  exact this
 ·intro t ht
  obtain ⟨i, hi, hx⟩ := List.getElem_of_mem ht
  obtain ⟨_, _, _, _, g5⟩ := Lx.chain_at l ts _ i t h4 (by rw [List.getElem?_eq_getElem hi, hx])
  omega
theorem tokv_of {w : World} {base : Nat} {a : Option Addr} {cap : Nat} {ts : List Tk} (h : w.ownsRow base 45 4 (.slice a ts.length cap) ts.length (tksCells ts)) (h0 : ts.length = 0 → True) :
  ∃ Tb, Tb < w.heap.size + 1 ∧ (ts ≠ [] → Tb < w.heap.size) ∧ TokV w Tb (.slice a ts.length cap) ts := by
 by_cases hn : ts = []
 ·subst hn
  exact ⟨w.heap.size, by omega, fun h => absurd rfl h, .inl ⟨rfl, a, cap, rfl⟩⟩
 ·obtain ⟨g, c, e, h1, h2, h3, h4⟩ := row_cell h (by simpa using hn)
  simp only [Value.slice.injEq] at e
  obtain ⟨rfl, _, rfl⟩ := e
  refine ⟨g, by omega, fun _ => h2, .inr ⟨hn, 0, cap, rfl, h3, fun i t hi j hj => ?_⟩⟩
  have hi' : i < ts.length := by
   rcases Nat.lt_or_ge i ts.length with h | h
   ·exact h
   ·rw [List.getElem?_eq_none h] at hi; cases hi
  rw [Nat.zero_add, h4 _ (by omega)]
  exact toks_get ts i t hi j hj
/-- what Parse answers, with as many rounds granted as there can be tokens -/
def Px.parseP (l : List UInt8) : Option ModD × Nat × Nat :=
 match Lx.lexL l with
 | (ts, 0, _) =>
  match Px.module l.length 6001 ts with
  | .ok m _ => (some m, 0, 0)
  | .bad [] => (none, 5, l.length)
  | .bad (t :: _) => (none, 4, t.off)
 | (_, e, o) => (none, e, o)
theorem parseP_ok {l : List UInt8} {ts : List Tk} {at' : Nat} (h : Lx.lexL l = (ts, 0, at')) : Px.parseP l = match Px.module l.length 6001 ts with
  | .ok m _ => (some m, 0, 0)
  | .bad [] => (none, 5, l.length)
  | .bad (t :: _) => (none, 4, t.off) := by
 unfold Px.parseP
 rw [h]
 show (match Px.module l.length 6001 ts with
  | .ok m _ => (some m, 0, 0)
  | .bad [] => (none, 5, l.length)
  | .bad (t :: _) => (none, 4, t.off)) = _
 cases Px.module l.length 6001 ts with
 | ok m r => rfl
 | bad r => cases r <;> rfl
theorem parseP_err {l : List UInt8} {ts : List Tk} {er at' : Nat} (h : Lx.lexL l = (ts, er, at')) (he : er ≠ 0) : Px.parseP l = (none, er, at') := by
 unfold Px.parseP
 rw [h]
 cases er with
 | zero => exact absurd rfl he
 | succ n => rfl
set_option maxRecDepth 100000 in
set_option maxHeartbeats 1600000 in
theorem parse_any (s : ByteArray) (w : World) (hs : s.size ≤ 140737488355328) (hL : Libs w) :
  Calls Tryz.prog 14 #[.string s] w (ParsePost w (Px.parseP s.data.toList)) := by
 obtain ⟨ts, er, at', hr⟩ : ∃ ts er at', Lx.lexL s.data.toList = (ts, er, at') := ⟨_, _, _, rfl⟩
 have hlen : s.data.toList.length = s.size := by simp
 have HL := Lib.hid hL
 by_cases h0 : er = 0
 ·subst h0
  have hp := parseP_ok hr
  obtain ⟨rfl, f1, f2, f3, f4⟩ := lex_facts hr
  rw [hlen] at f1 hp
  have HP := Lib.hid hp
  have HR := Lib.hid hr
  have HF3 := Lib.hid f3
  have HF4 := Lib.hid f4
  clear hr hp hlen hL f3 f4
  go_enter Tryz.func14, Tryz.ntmps14
  go_wp2_with fail
  refine (lex_spec s _ hs (HL.out.below ((Below.refl _ w).alloc (Nat.le_refl _) _) (Nat.le_refl _)) _ _ _ HR.out).mono ?_
  rintro e w1 ⟨a, cap, rfl, hrow, hb1⟩
  have HB1 : Hid (Below w.heap.size w w1) := Lib.hid (((Below.refl _ w).alloc (Nat.le_refl _) _).trans (hb1.mono (by simp)))
  have HD1 : Hid (Blk w1 w.heap.size 29 #[.string ⟨#[]⟩, .slice none 0 0, .slice none 0 0, .slice none 0 0, .slice none 0 0, .slice none 0 0]) := Lib.hid ((Blk.new w _ _).keep (Inv_below_fr hb1) (by simp))
  have hz1 : w.heap.size < w1.heap.size := HD1.out.lt
  obtain ⟨Tb, ht1, ht2, ht3⟩ := tokv_of hrow (fun _ => trivial)
  obtain ⟨Tb', ht4, ht5⟩ : ∃ Tb', Tb' < w1.heap.size ∧ TokV w1 Tb' (.slice a ts.length cap) ts := by
   by_cases hn : ts = []
   ·exact ⟨w.heap.size, hz1, .inl ⟨hn, a, cap, by rw [hn]; rfl⟩⟩
   ·exact ⟨Tb, ht2 hn, ht3⟩
  have HT := Lib.hid ht5
  clear hb1 hrow ht1 ht2 ht3 ht5
  go_wp2_with fail
  refine (newReader_any Tb' s.size a ts.length cap ts _ HT.out ht4 f2 f1 HF3.out HF4.out (HL.out.below HB1.out (Nat.le_refl _)).1).mono ?_
  rintro e w2 ⟨c, hcs, hct, rfl, hi, hf, hcR⟩
  have HI := Lib.hid hi
  have HF2 := Lib.hid hf
  have hD2 := HD1.out.keep hf (by simp)
  have HD2 := Lib.hid hD2
  have HCS := Lib.hid hcs
  have hz2 : w1.heap.size ≤ w2.heap.size := hf.size
  have hRR : c.R < w2.heap.size := hi.lt.1
  clear hi hf hcs hct hD2
  go_wp2_with fail
  refine (read_any c ts w2 HI.out 6001 (by omega)).mono ?_
  rintro e w3 ⟨hf3, hm⟩
  rw [HCS.out] at hm
  have hp := HP.out
  have hF : Fr [] w w3 := by
   have h1 : Fr [c.R] w w2 := Fr.trans (b := w1) (Fr.of_below HB1.out (Nat.le_refl _) _) (HF2.out.mono (fun k _ hk => by cases hk))
   refine (h1.trans hf3).drop (X := []) ?_
   omega
  have hD3 := HD2.out.keep hf3 (by simp; omega)
  have HD3 := Lib.hid hD3
  have hlD : w.heap.size < w3.heap.size := hD3.lt
  have HFF := Lib.hid hF
  have hz3 : w2.heap.size ≤ w3.heap.size := hf3.size
  clear hf3 hF hD3
  cases hq : Px.module s.size 6001 ts with
  | ok M r =>
   rw [hq] at hm hp
   obtain ⟨cs, rfl, hrep⟩ := hm
   obtain ⟨y1, y2, y3, y4, y5, y6, rfl⟩ := cells_6 (hrep.len.trans rfl)
   obtain ⟨s1, rfl⟩ := hrep.kind 0 rfl (kind_modQ M 0 rfl)
   obtain ⟨p2, n2, c2, rfl⟩ := hrep.kind 1 rfl (kind_modQ M 1 rfl)
   obtain ⟨p3, n3, c3, rfl⟩ := hrep.kind 2 rfl (kind_modQ M 2 rfl)
   obtain ⟨p4, n4, c4, rfl⟩ := hrep.kind 3 rfl (kind_modQ M 3 rfl)
   obtain ⟨p5, n5, c5, rfl⟩ := hrep.kind 4 rfl (kind_modQ M 4 rfl)
   obtain ⟨p6, n6, c6, rfl⟩ := hrep.kind 5 rfl (kind_modQ M 5 rfl)
   have HREP := Lib.hid hrep
   have HPP := Lib.hid hp
   clear hrep hp hq
   have a0 : w3.cell? ⟨w.heap.size, 0, none⟩ = some (.string ⟨#[]⟩) := HD3.out.cell 0
   have a1 : w3.cell? ⟨w.heap.size, 1, none⟩ = some (.slice none 0 0) := HD3.out.cell 1
   have a2 : w3.cell? ⟨w.heap.size, 2, none⟩ = some (.slice none 0 0) := HD3.out.cell 2
   have a3 : w3.cell? ⟨w.heap.size, 3, none⟩ = some (.slice none 0 0) := HD3.out.cell 3
   have a4 : w3.cell? ⟨w.heap.size, 4, none⟩ = some (.slice none 0 0) := HD3.out.cell 4
   have a5 : w3.cell? ⟨w.heap.size, 5, none⟩ = some (.slice none 0 0) := HD3.out.cell 5
   have b0 : w3.frozen? ⟨w.heap.size, 0, none⟩ = false := HD3.out.frozen 0
   have b1 : w3.frozen? ⟨w.heap.size, 1, none⟩ = false := HD3.out.frozen 1
   have b2 : w3.frozen? ⟨w.heap.size, 2, none⟩ = false := HD3.out.frozen 2
   have b3 : w3.frozen? ⟨w.heap.size, 3, none⟩ = false := HD3.out.frozen 3
   have b4 : w3.frozen? ⟨w.heap.size, 4, none⟩ = false := HD3.out.frozen 4
   have b5 : w3.frozen? ⟨w.heap.size, 5, none⟩ = false := HD3.out.frozen 5
   go_wp2_with fail
   refine bodyPost_ret (v := .tuple #[.agg #[.string s1, .slice p2 n2 c2, .slice p3 n3 c3, .slice p4 n4 c4, .slice p5 n5 c5, .slice p6 n6 c6], .int .i64 0, .int .i64 0]) (by simp [results, Tryz.results14, go_sem, a0, a1, a2, a3, a4, a5, hlD]) rfl ?_
   have hfs : Fr [w.heap.size] w3 ((((((w3.setCell ⟨w.heap.size, 0, none⟩ (.string s1)).setCell ⟨w.heap.size, 1, none⟩ (.slice p2 n2 c2)).setCell ⟨w.heap.size, 2, none⟩ (.slice p3 n3 c3)).setCell ⟨w.heap.size, 3, none⟩ (.slice p4 n4 c4)).setCell ⟨w.heap.size, 4, none⟩ (.slice p5 n5 c5)).setCell ⟨w.heap.size, 5, none⟩ (.slice p6 n6 c6)) := by
    repeat' (first | with_reducible exact Fr.refl _ _ | with_reducible refine Fr.setCell ?_ (Or.inl ?_) _ | (simp; done))
   unfold ParsePost
   rw [HPP.out]
   exact ⟨((HFF.out.mono (fun k _ hk => by cases hk)).trans hfs).drop (Nat.le_refl _), _, rfl, rep_own (b := w.heap.size) HREP.out (X := [w.heap.size]) hfs (by simp; omega) (by omega)⟩
  | bad r =>
   rw [hq] at hm hp
   have he : e = .returned (.tuple #[zeroM, .int .i64 (errOf r), .int .i64 (offOf s.size r)]) := by rw [← HCS.out]; rw [HCS.out]; exact hm
   subst he
   have HPP : Hid (Px.parseP s.data.toList = (none, errOf r, offOf s.size r)) := Lib.hid (by rw [hp]; cases r <;> rfl)
   clear hm hp hq
   have a0 : w3.cell? ⟨w.heap.size, 0, none⟩ = some (.string ⟨#[]⟩) := HD3.out.cell 0
   have a1 : w3.cell? ⟨w.heap.size, 1, none⟩ = some (.slice none 0 0) := HD3.out.cell 1
   have a2 : w3.cell? ⟨w.heap.size, 2, none⟩ = some (.slice none 0 0) := HD3.out.cell 2
   have a3 : w3.cell? ⟨w.heap.size, 3, none⟩ = some (.slice none 0 0) := HD3.out.cell 3
   have a4 : w3.cell? ⟨w.heap.size, 4, none⟩ = some (.slice none 0 0) := HD3.out.cell 4
   have a5 : w3.cell? ⟨w.heap.size, 5, none⟩ = some (.slice none 0 0) := HD3.out.cell 5
   have b0 : w3.frozen? ⟨w.heap.size, 0, none⟩ = false := HD3.out.frozen 0
   have b1 : w3.frozen? ⟨w.heap.size, 1, none⟩ = false := HD3.out.frozen 1
   have b2 : w3.frozen? ⟨w.heap.size, 2, none⟩ = false := HD3.out.frozen 2
   have b3 : w3.frozen? ⟨w.heap.size, 3, none⟩ = false := HD3.out.frozen 3
   have b4 : w3.frozen? ⟨w.heap.size, 4, none⟩ = false := HD3.out.frozen 4
   have b5 : w3.frozen? ⟨w.heap.size, 5, none⟩ = false := HD3.out.frozen 5
   go_wp2_with fail
   refine bodyPost_ret (v := .tuple #[zeroM, .int .i64 (errOf r), .int .i64 (offOf s.size r)]) (by simp [results, Tryz.results14, go_sem, a0, a1, a2, a3, a4, a5, hlD]) rfl ?_
   have hfs : Fr [w.heap.size] w3 ((((((w3.setCell ⟨w.heap.size, 0, none⟩ (.string ⟨#[]⟩)).setCell ⟨w.heap.size, 1, none⟩ (.slice none 0 0)).setCell ⟨w.heap.size, 2, none⟩ (.slice none 0 0)).setCell ⟨w.heap.size, 3, none⟩ (.slice none 0 0)).setCell ⟨w.heap.size, 4, none⟩ (.slice none 0 0)).setCell ⟨w.heap.size, 5, none⟩ (.slice none 0 0)) := by
    repeat' (first | with_reducible exact Fr.refl _ _ | with_reducible refine Fr.setCell ?_ (Or.inl ?_) _ | (simp; done))
   unfold ParsePost
   rw [HPP.out]
   exact ⟨((HFF.out.mono (fun k _ hk => by cases hk)).trans hfs).drop (Nat.le_refl _), rfl⟩
 ·have hp := parseP_err hr h0
  have he0 : ((er : Int) != 0) = true := by simp; omega
  have HP := Lib.hid hp
  have HR := Lib.hid hr
  clear hr hp hlen hL h0
  go_enter Tryz.func14, Tryz.ntmps14
  go_wp2_with fail
  refine (lex_spec s _ hs (HL.out.below ((Below.refl _ w).alloc (Nat.le_refl _) _) (Nat.le_refl _)) _ _ _ HR.out).mono ?_
  rintro e w1 ⟨a, cap, rfl, hrow, hb1⟩
  have HB1 : Hid (Fr [] w w1) := Lib.hid (((Fr.refl _ w).alloc _).trans (Inv_below_fr hb1))
  have HD1 : Hid (Blk w1 w.heap.size 29 #[.string ⟨#[]⟩, .slice none 0 0, .slice none 0 0, .slice none 0 0, .slice none 0 0, .slice none 0 0]) := Lib.hid ((Blk.new w _ _).keep (Inv_below_fr hb1) (by simp))
  have hlD : w.heap.size < w1.heap.size := HD1.out.lt
  clear hb1 hrow
  have a0 : w1.cell? ⟨w.heap.size, 0, none⟩ = some (.string ⟨#[]⟩) := HD1.out.cell 0
  have a1 : w1.cell? ⟨w.heap.size, 1, none⟩ = some (.slice none 0 0) := HD1.out.cell 1
  have a2 : w1.cell? ⟨w.heap.size, 2, none⟩ = some (.slice none 0 0) := HD1.out.cell 2
  have a3 : w1.cell? ⟨w.heap.size, 3, none⟩ = some (.slice none 0 0) := HD1.out.cell 3
  have a4 : w1.cell? ⟨w.heap.size, 4, none⟩ = some (.slice none 0 0) := HD1.out.cell 4
  have a5 : w1.cell? ⟨w.heap.size, 5, none⟩ = some (.slice none 0 0) := HD1.out.cell 5
  have b0 : w1.frozen? ⟨w.heap.size, 0, none⟩ = false := HD1.out.frozen 0
  have b1 : w1.frozen? ⟨w.heap.size, 1, none⟩ = false := HD1.out.frozen 1
  have b2 : w1.frozen? ⟨w.heap.size, 2, none⟩ = false := HD1.out.frozen 2
  have b3 : w1.frozen? ⟨w.heap.size, 3, none⟩ = false := HD1.out.frozen 3
  have b4 : w1.frozen? ⟨w.heap.size, 4, none⟩ = false := HD1.out.frozen 4
  have b5 : w1.frozen? ⟨w.heap.size, 5, none⟩ = false := HD1.out.frozen 5
  go_wp2_with fail
  refine bodyPost_ret (v := .tuple #[zeroM, .int .i64 er, .int .i64 at']) (by simp [results, Tryz.results14, go_sem, a0, a1, a2, a3, a4, a5, hlD]) rfl ?_
  have hfs : Fr [w.heap.size] w1 ((((((w1.setCell ⟨w.heap.size, 0, none⟩ (.string ⟨#[]⟩)).setCell ⟨w.heap.size, 1, none⟩ (.slice none 0 0)).setCell ⟨w.heap.size, 2, none⟩ (.slice none 0 0)).setCell ⟨w.heap.size, 3, none⟩ (.slice none 0 0)).setCell ⟨w.heap.size, 4, none⟩ (.slice none 0 0)).setCell ⟨w.heap.size, 5, none⟩ (.slice none 0 0)) := by
   repeat' (first | with_reducible exact Fr.refl _ _ | with_reducible refine Fr.setCell ?_ (Or.inl ?_) _ | (simp; done))
  unfold ParsePost
  rw [HP.out]
  exact ⟨((HB1.out.mono (fun k _ hk => by cases hk)).trans hfs).drop (Nat.le_refl _), rfl⟩
end Go.Proofs.YtpdhiminpdmpiaaGreatDoor
/-
 The walk of the parser's head.
-/
set_option linter.unusedVariables false
set_option linter.unusedSimpArgs false
set_option linter.unusedSectionVars false
namespace Go.Proofs.YtpdhiminpdmpiaaGreatDoor
open Go.RowKit Go.Lib
open Lx (Tk)
open Px (Txt TyE VarD DataD TraitD BoundD ImplD ArgD ExprD StmtD ArmD FuncD ModD)
theorem parse_spec (s : ByteArray) (w : World) (hs : s.size ≤ 140737488355328) (hL : Libs w) (r : Option ModD × Nat × Nat) (h : Px.parseP s.data.toList = r) :
  Calls Tryz.prog 14 #[.string s] w (ParsePost w r) := by
 subst h; exact parse_any s w hs hL
theorem RowV.get {w : World} {N : Nat → Prop} {E s n : Nat} {q : Q} {v : Value} (h : RowV w N E s n q v) (hn : n ≠ 0) :
  ∃ g cap xs, v = .slice (some ⟨g, 0, none⟩) n cap ∧ N g ∧ g < w.heap.size ∧ n ≤ cap ∧ cap ≤ maxLen ∧ xs.length = n * s ∧ (∀ j, j < n * s → w.cell? ⟨g, j, none⟩ = xs[j]?) ∧ Rep w N q xs := by
 rcases h with ⟨_, rfl, _⟩ | ⟨g, cap, cur, xs, rfl, b, hg, c0, c1, c2, c3, c4, c5, hq⟩
 ·exact absurd rfl hn
 ·refine ⟨g, cap, xs, rfl, hg, (Array.getElem?_eq_some_iff.1 c0).1, c1, c2, c5, fun j hj => ?_, hq⟩
  have e : w.cell? ⟨g, j, none⟩ = cur[j]? := by simp [World.cell?, c0]
  rw [e, ← c4, List.getElem?_take, if_pos hj]; simp
theorem RowV.none {w : World} {N : Nat → Prop} {E s : Nat} {q : Q} {v : Value} (h : RowV w N E s 0 q v) : v = .slice none 0 0 := by
 rcases h with ⟨h, _⟩ | ⟨g, cap, cur, xs, rfl, b, _⟩
 ·exact h
 ·exact absurd rfl b
abbrev pt1 : ByteArray := ⟨#[109, 111, 100, 117, 108, 101, 32, 109, 59]⟩
abbrev pt2 : ByteArray := ⟨#[109, 111, 100, 117, 108, 101, 32, 109, 59, 32, 102, 110, 32, 102, 40, 41, 32, 45, 62, 32, 73, 110, 116, 32, 123, 32, 108, 101, 116, 32, 120, 32, 61, 32, 53, 59, 32, 114, 101, 116, 117, 114, 110, 32, 120, 59, 32, 125]⟩
abbrev pt3 : ByteArray := ⟨#[109, 111, 100, 117, 108, 101, 32, 109, 59, 32, 102, 110, 32, 102, 40, 41, 32, 45, 62, 32, 73, 110, 116, 32, 123, 32, 108, 101, 116, 32, 120, 32, 61, 32, 59, 32, 125]⟩
abbrev pt4 : ByteArray := ⟨#[109, 111, 100, 117, 108, 101, 32, 109, 59, 32, 100, 97, 116, 97]⟩
abbrev pt5 : ByteArray := ⟨#[109, 111, 100, 117, 108, 101, 32, 105, 102, 59]⟩
abbrev pt6 : ByteArray := ⟨#[109, 111, 100, 117, 108, 101, 32, 109, 59, 32, 36]⟩
abbrev pt7 : ByteArray := ⟨#[109, 111, 100, 117, 108, 101, 32, 109, 59, 32, 100, 97, 116, 97, 32, 108, 105, 115, 116, 60, 84, 62, 32, 123, 32, 110, 105, 108, 44, 32, 99, 111, 110, 115, 40, 84, 44, 32, 66, 111, 120, 60, 108, 105, 115, 116, 60, 84, 62, 62, 41, 32, 125, 32, 100, 114, 111, 112, 32, 51, 59]⟩
theorem ptr1 : Px.parseP pt1.data.toList = (some ⟨[109], [], [], [], [], []⟩, 0, 0) := by kernel_rfl
theorem ptr2 : Px.parseP pt2.data.toList = (some ⟨[109], [], [], [], [], [.mk [102] [] [] [] [] (.mk [73, 110, 116] [] 20) [.mk 1 [120] [] [] ⟨1, [], [], [], [], 5, [], 34⟩ [] [] [] [] 26, .mk 7 [120] [] [] Px.expr0 [] [] [] [] 37] 10]⟩, 0, 0) := by kernel_rfl
theorem ptr3 : Px.parseP pt3.data.toList = (none, 4, 34) := by kernel_rfl
theorem ptr4 : Px.parseP pt4.data.toList = (none, 5, 14) := by kernel_rfl
theorem ptr5 : Px.parseP pt5.data.toList = (none, 4, 7) := by kernel_rfl
theorem ptr6 : Px.parseP pt6.data.toList = (none, 3, 10) := by kernel_rfl
theorem ptr7 : Px.parseP pt7.data.toList = (some ⟨[109], [], [⟨[108, 105, 115, 116], [[84]], [⟨[110, 105, 108], [], 25⟩, ⟨[99, 111, 110, 115], [.mk [84] [] 35, .mk [66, 111, 120] [.mk [108, 105, 115, 116] [.mk [84] [] 47] 42] 38], 30⟩], 3, 10⟩], [], [], []⟩, 0, 0) := by kernel_rfl
end Go.Proofs.YtpdhiminpdmpiaaGreatDoor
