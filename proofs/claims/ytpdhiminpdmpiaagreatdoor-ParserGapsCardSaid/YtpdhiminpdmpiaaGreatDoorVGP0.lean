/-
 Walks of what the parser's laws share: tokens, place.
-/
import Derived.Test.YtpdhiminpdmpiaaGreatDoorVBG
import Derived.Test.YtpdhiminpdmpiaaGreatDoorVI
import Derived.Test.YtpdhiminpdmpiaaGreatDoorVQ
set_option linter.unusedVariables false
set_option linter.unusedSimpArgs false
set_option linter.unusedSectionVars false
set_option linter.unusedVariables false
set_option linter.unusedSimpArgs false
set_option linter.unusedSectionVars false
namespace Go.Proofs.YtpdhiminpdmpiaaGreatDoor
open Go.RowKit Go.Lib
open Lx (Tk)
/-- the law holds, and nothing old has changed -/
def PGood (w : World) (e : Ending) (w' : World) : Prop := e = .returned (.bool true) ∧ Fr [] w w'
/-- what tokens comes to, at a text that is not too long -/
def ToksPost (w : World) (l : List UInt8) (e : Ending) (w' : World) : Prop :=
 ∃ a cap Tb, e = .returned (.tuple #[.slice a (Lx.lexL l).1.length cap, .bool ((Lx.lexL l).2.1 == 0)]) ∧ TokV w' Tb (.slice a (Lx.lexL l).1.length cap) (Lx.lexL l).1 ∧ Tb < w'.heap.size ∧ (Lx.lexL l).1.length ≤ cap ∧ Fr [] w w'
theorem few_any (l : List UInt8) : (Lx.lexL l).1.length ≤ 6000 := by
 obtain ⟨ts, er, a, h⟩ : ∃ ts er a, Lx.lexL l = (ts, er, a) := ⟨_, _, _, rfl⟩
 rw [h]
 by_cases h0 : er = 0
 ·subst h0
  exact (lex_facts h).2.2.1
 ·by_cases hl : 20000 < l.length
  ·have := Lx.lex_long l hl
   rw [h] at this
   simp at this
   simp [this.1]
  ·have g := Lx.lex_error l (by omega) (by rw [h]; exact h0)
   rw [h] at g
   have := g.1
   simp only at this
   simp [this]
theorem tokv_next {w : World} {base : Nat} {a : Option Addr} {cap : Nat} {ts : List Tk} (h : w.ownsRow base 45 4 (.slice a ts.length cap) ts.length (tksCells ts)) (h0 : 0 < w.heap.size) (hcap : ts = [] → Value.slice a ts.length cap = .slice none 0 0) :
  ∃ Tb, Tb < w.heap.size ∧ TokV w Tb (.slice a ts.length cap) ts ∧ ts.length ≤ cap := by
 by_cases hn : ts = []
 ·have e := hcap hn
  simp only [Value.slice.injEq] at e
  obtain ⟨rfl, e2, rfl⟩ := e
  exact ⟨0, h0, .inl ⟨hn, none, 0, by rw [hn]; rfl⟩, by omega⟩
 ·obtain ⟨g, c, e, h1, h2, h3, h4⟩ := row_cell h (by simpa using hn)
  simp only [Value.slice.injEq] at e
  obtain ⟨rfl, _, rfl⟩ := e
  refine ⟨g, h2, .inr ⟨hn, 0, cap, rfl, h3, fun i t hi j hj => ?_⟩, h3⟩
  have hi' : i < ts.length := by
   rcases Nat.lt_or_ge i ts.length with h | h
   ·exact h
   ·rw [List.getElem?_eq_none h] at hi; cases hi
  rw [Nat.zero_add, h4 _ (by omega)]
  exact toks_get ts i t hi j hj
theorem tokens_long (s : ByteArray) (m : Nat) (w : World) (h : m < s.size) :
  Calls Tryz.prog 17 #[.string s, .int .i64 m] w fun e w' => e = .returned (.tuple #[.slice none 0 0, .bool false]) ∧ w = w' := by
 have hd : decide ((m : Int) < (s.size : Int)) = true := by simp; omega
 have hd2 : decide (m < s.size) = true := by simp; omega
 go_enter Tryz.func17, Tryz.ntmps17
 go_wp2_with fail
 go_ret2
 exact ⟨rfl, rfl⟩
theorem tokens_short (s : ByteArray) (m : Nat) (w : World) (h : s.size ≤ m) (hm : m ≤ 20000) (h0 : 0 < w.heap.size) :
  Calls Tryz.prog 17 #[.string s, .int .i64 m] w (ToksPost w s.data.toList) := by
 have hd : decide ((m : Int) < (s.size : Int)) = false := by simp; omega
 have hd2 : decide (m < s.size) = false := by simp; omega
 obtain ⟨ts, er, at', hr⟩ : ∃ ts er at', Lx.lexL s.data.toList = (ts, er, at') := ⟨_, _, _, rfl⟩
 have HR := Lib.hid hr
 clear hr
 go_enter Tryz.func17, Tryz.ntmps17
 go_wp2_with fail
 refine (ref_lex s _ (by omega)).mono ?_
 rintro e w1 ⟨v, rfl, h1, h2, hb⟩
 rw [HR.out] at h1 h2
 obtain ⟨a, cap, rfl⟩ := row_shape h1
 obtain ⟨Tb, t1, t2, t3⟩ := tokv_next h1 (Nat.lt_of_lt_of_le h0 hb.size) h2
 have HT := Lib.hid t2
 have HB := Lib.hid (Inv_below_fr hb)
 unfold lexV
 rw [HR.out]
 clear h1 h2 hb t2
 go_wp2_with fail
 go_ret2
 refine ⟨a, cap, Tb, ?_, ?_, t1, ?_, HB.out⟩
 ·rw [HR.out]
  show _ = Ending.returned (.tuple #[.slice a ts.length cap, .bool (er == 0)])
  rw [show (er == 0) = ((er : Int) == 0) from by rw [Bool.eq_iff_iff]; simp]
  rfl
 ·rw [HR.out]; exact HT.out
 ·rw [HR.out]; exact t3
/-- the place of the first token at an offset -/
def placeL (ts : List Tk) (x : Int) : Nat := ts.findIdx (fun t => (t.off : Int) == x)
theorem placeL_le (ts : List Tk) (x : Int) : placeL ts x ≤ ts.length := List.findIdx_le_length
theorem TokV.at {w : World} {Tb : Nat} {a : Option Addr} {n cap i : Nat} {ts : List Tk} (h : TokV w Tb (.slice a n cap) ts) {t : Tk} (ht : ts[i]? = some t) :
  ∃ o, a = some ⟨Tb, o, none⟩ ∧ n = ts.length ∧ ts.length ≤ cap ∧ w.cell? ⟨Tb, o + i * 4, none⟩ = some (.int .i64 t.kind) ∧ w.cell? ⟨Tb, o + i * 4 + 1, none⟩ = some (.string ⟨t.text.toArray⟩) ∧ w.cell? ⟨Tb, o + i * 4 + 3, none⟩ = some (.int .i64 t.off) := by
 rcases h with ⟨rfl, _⟩ | ⟨hne, o, cap', e, h2, h3⟩
 ·simp at ht
 ·simp only [Value.slice.injEq] at e
  obtain ⟨rfl, rfl, rfl⟩ := e
  exact ⟨o, rfl, rfl, h2, h3 i t ht 0 (by omega), h3 i t ht 1 (by omega), h3 i t ht 3 (by omega)⟩
theorem place_any (ts : List Tk) (x : Int) (a : Option Addr) (cap Tb : Nat) (w : World) (h : TokV w Tb (.slice a ts.length cap) ts) (hn : ts.length ≤ 6000) (hc : ts.length ≤ cap) (hTb : Tb < w.heap.size) :
  Calls Tryz.prog 19 #[.slice a ts.length cap, .int .i64 x] w fun e w' => e = .returned (.int .i64 (placeL ts x)) ∧ w = w' := by
 have HT := Lib.hid h
 clear h
 go_enter Tryz.func19, Tryz.ntmps19
 go_wp2_with fail
 go_loop [5] (fun v => ∃ i : Nat, v = .int .i64 i ∧ i ≤ ts.length ∧ ∀ j t, j < i → ts[j]? = some t → ((t.off : Int) == x) = false) (fun v => ts.length - (RowKit.intOf v).toNat)
 case atStart => exact ⟨0, rfl, by omega, fun j t hj => by omega⟩
 case round =>
  obtain ⟨i, rfl, hi, hno⟩ := hrel
  have HNO := Lib.hid hno
  clear hno
  by_cases hlt : i < ts.length
  ·obtain ⟨t, ht⟩ : ∃ t, ts[i]? = some t := ⟨ts[i], List.getElem?_eq_getElem hlt⟩
   obtain ⟨o, rfl, _, _, _, _, hc3⟩ := HT.out.at ht
   have HX := Lib.hid ht
   clear ht
   have hlt' : decide ((i : Int) < (ts.length : Int)) = true := by simp; omega
   have hlt'' : decide (i < ts.length) = true := by simp; omega
   cases hq : ((t.off : Int) == x) with
   | true =>
    have HQ := Lib.hid hq
    go_wp2_with fail
    go_ret
    refine ⟨?_, rfl⟩
    have e : placeL ts x = i := by
     unfold placeL
     rw [List.findIdx_eq hlt]
     rw [List.getElem?_eq_getElem hlt] at HX
     have := HX.out
     injection this with this
     refine ⟨by rw [this]; exact HQ.out, fun j hj => HNO.out j _ hj (List.getElem?_eq_getElem (by omega))⟩
    rw [e]; rfl
   | false =>
    have HQ := Lib.hid hq
    go_wp2_with fail
    go_round
    case rel =>
     refine ⟨i + 1, by go_num, by omega, fun j t' hj ht' => ?_⟩
     rcases Nat.lt_or_ge j i with h | h
     ·exact HNO.out j t' h ht'
     ·obtain rfl : j = i := by omega
      rw [HX.out] at ht'
      injection ht' with ht'
      rw [← ht']; exact HQ.out
    case measure => simp [RowKit.intOf]; omega
  ·obtain rfl : i = ts.length := by omega
   have hlt' : decide ((ts.length : Int) < (ts.length : Int)) = false := by simp
   go_wp2_with fail
   go_ret
   refine ⟨?_, rfl⟩
   have e : placeL ts x = ts.length := by
    unfold placeL
    rw [List.findIdx_eq_length]
    intro t ht
    obtain ⟨j, hj, hx⟩ := List.getElem_of_mem ht
    exact HNO.out j t hj (by rw [List.getElem?_eq_getElem hj, hx])
   rw [e]; rfl
/-- what Parse comes to, but for the module -/
def ErrPost (w : World) (r : Nat × Nat) (e : Ending) (w' : World) : Prop :=
 ∃ (s1 : ByteArray) (p2 : Option Addr) (n2 c2 : Nat) (p3 : Option Addr) (n3 c3 : Nat) (p4 : Option Addr) (n4 c4 : Nat) (p5 : Option Addr) (n5 c5 : Nat) (p6 : Option Addr) (n6 c6 : Nat),
  e = .returned (.tuple #[.agg #[.string s1, .slice p2 n2 c2, .slice p3 n3 c3, .slice p4 n4 c4, .slice p5 n5 c5, .slice p6 n6 c6], .int .i64 r.1, .int .i64 r.2]) ∧ Fr [] w w'
theorem parse_errs (s : ByteArray) (w : World) (hs : s.size ≤ 140737488355328) (hL : Libs w) (r : Nat × Nat) (h : errP s.data.toList = r) : Calls Tryz.prog 14 #[.string s] w (ErrPost w r) := by
 subst h
 obtain ⟨m, er, at', hr⟩ : ∃ m er at', Px.parseP s.data.toList = (m, er, at') := ⟨_, _, _, rfl⟩
 refine (parse_spec s w hs hL _ hr).mono ?_
 rintro e w' ⟨hf, hm⟩
 unfold errP
 rw [hr]
 cases m with
 | none => exact ⟨_, _, _, _, _, _, _, _, _, _, _, _, _, _, _, _, hm, hf⟩
 | some M =>
  have hz : er = 0 ∧ at' = 0 := by
   unfold Px.parseP at hr
   split at hr
   ·split at hr
    ·simp at hr; exact ⟨hr.2.1.symm, hr.2.2.symm⟩
    ·simp at hr
    ·simp at hr
   ·simp at hr
  obtain ⟨rfl, rfl⟩ := hz
  obtain ⟨cs, rfl, hrep⟩ := hm
  obtain ⟨y1, y2, y3, y4, y5, y6, rfl⟩ := cells_6 (hrep.len.trans rfl)
  obtain ⟨s1, rfl⟩ := hrep.kind 0 rfl (kind_modQ M 0 rfl)
  obtain ⟨p2, n2, c2, rfl⟩ := hrep.kind 1 rfl (kind_modQ M 1 rfl)
  obtain ⟨p3, n3, c3, rfl⟩ := hrep.kind 2 rfl (kind_modQ M 2 rfl)
  obtain ⟨p4, n4, c4, rfl⟩ := hrep.kind 3 rfl (kind_modQ M 3 rfl)
  obtain ⟨p5, n5, c5, rfl⟩ := hrep.kind 4 rfl (kind_modQ M 4 rfl)
  obtain ⟨p6, n6, c6, rfl⟩ := hrep.kind 5 rfl (kind_modQ M 5 rfl)
  exact ⟨_, _, _, _, _, _, _, _, _, _, _, _, _, _, _, _, rfl, hf⟩
end Go.Proofs.YtpdhiminpdmpiaaGreatDoor
