/-
  The walk of newSolver, where no variable is solved.
-/
import Derived.Test.YtkhbgdhgjbnhpaaU19
set_option linter.unusedVariables false
set_option linter.unusedSimpArgs false
set_option linter.unusedSectionVars false
namespace Go.Proofs.Ytkhbgdhgjbnhpaa
open Go.RowKit Go.Lib
open Un (kd nm ar size sizes unsolved)

namespace Un
def zero : Ty := .mk 0 0 []
def var (i : Int) : Ty := .mk 9 i []
/-- the terms of variables of which none is solved -/
def fresh : Nat → List Tm
  | 0 => []
  | n + 1 => fresh n ++ [⟨var n, [], n⟩]
theorem fresh_len : ∀ n, (fresh n).length = n
  | 0 => rfl
  | n + 1 => by rw [fresh]; simp [fresh_len n]
end Un
def NewSolP (n : Nat) (w : World) (e : Ending) (w' : World) : Prop := e = .returned (.pointer (some ⟨w.heap.size, 0, none⟩)) ∧ Fr [] w w' ∧ ∃ tv, SolV w' (fun _ => True) w.heap.size n (Un.fresh n) tv
set_option maxRecDepth 100000 in
set_option maxHeartbeats 3200000 in
theorem newsolver_any (N : Nat → Prop) (s : List Ty) (v : Value) (w : World) (h : TysV w N s v) (hs : ∀ t ∈ s, t = Un.zero) (hl : s.length ≤ 1000) : Calls Try.prog 66 #[v] w (NewSolP s.length w) := by
  obtain ⟨ps, cs, rfl⟩ := h.shape
  have HV := Lib.hid h
  have HZ := Lib.hid hs
  obtain ⟨n, hn⟩ : ∃ n, n = s.length := ⟨_, rfl⟩
  have HN := Lib.hid hn
  rw [← hn] at hl HV ⊢
  obtain ⟨w1, hw1⟩ : ∃ w1, w1 = w.alloc (.cells #[.int .i64 n, .slice none 0 0] 107) := ⟨_, rfl⟩
  have HF0 : Hid (Fr [] w w1) := Lib.hid (by rw [hw1]; exact (Fr.refl _ _).alloc _)
  have HB0 : Hid (Blk w1 w.heap.size 107 #[.int .i64 n, .slice none 0 0]) := Lib.hid (by rw [hw1]; exact Blk.new _ _ _)
  obtain ⟨j0, hj0, jz0, jz1, jz2⟩ := info_parts info_term
  have HJ0 := Lib.hid hj0
  clear h hs hn hj0
  go_enter Try.func66, Try.ntmps66
  go_wp2_with fail
  rw [← hw1]
  clear hw1
  go_loopw [13] (fun x wr => ∃ (i : Nat) (tv : Value), x = .int .i64 i ∧ i ≤ n ∧ Hid (Fr [] w wr) ∧ Hid (SolV wr (fun _ => True) w.heap.size n (Un.fresh i) tv)) (fun x _ => n - (RowKit.intOf x).toNat)
  case atStart => exact ⟨0, .slice none 0 0, rfl, Nat.zero_le _, HF0, Lib.hid ⟨HB0.out, OwnL.nil _ _ _ _ _⟩⟩
  case round =>
    obtain ⟨i, tv, rfl, hi, HFR, HS⟩ := hrel
    obtain ⟨pt, ct, rfl⟩ := HS.out.shape
    rw [Un.fresh_len] at HS
    by_cases hlt : i < n
    · have hd2 : decide ((i : Int) < (n : Int)) = true := by simp; omega
      have hd3 : decide (i < n) = true := by simpa using hlt
      have s1 : wr.cell? ⟨w.heap.size, 1, none⟩ = some (.slice pt i ct) := HS.out.blk.cell 1
      have sl : w.heap.size < wr.heap.size := HS.out.blk.lt
      have s1d : wr.drew.cell? ⟨w.heap.size, 1, none⟩ = some (.slice pt i ct) := s1
      go_wp2_with fail
      go_region_law (first | (refine step_append_ownl _ (by rfl) _ _ 105 (by rfl) (fun k => k ≠ w.heap.size ∧ True) (w.heap.size + 1) 109 j0 _ 5 72 Try.underlying105 HJ0.out jz0 jz1 jz2 rfl (by decide) (.slice pt i ct) i 1 (rowsQ qTm (Un.fresh i)) (qTm ⟨Un.var i, [], i⟩) (by rfl) G1.out ⟨w2.heap.size, 0, none⟩ 1 [.int .i64 9, .int .i64 i, .slice none 0 0, .slice none 0 0, .int .i64 i] (by rfl) rfl G2.out G3.out (by omega) (by decide) g4 ?_; intro p' c' w4 hL4 hg4 hv4; have hD4 := Lib.hid ((HS2.out.blk.alloc (.cells #[.int .i64 9, .int .i64 i, .slice none 0 0, .slice none 0 0, .int .i64 i] 109)).keep (X := (Value.slice pt i ct).ownBlock.toList) ⟨hg4.os, hg4.tape, hg4.output, hg4.size, fun k hk hx => hg4.block k hk (fun e => hx (by simp [← e]))⟩ (fun hx => by have h1 := (HS2.out.l.own w.heap.size (by simpa using hx)).1; omega)); have hk4 : w4.cell? ⟨w.heap.size, 1, none⟩ = some (.slice pt i ct) := hD4.out.cell 1; have hf4 : w4.frozen? ⟨w.heap.size, 1, none⟩ = false := hD4.out.frozen 1; have HL4 := Lib.hid hL4; have HG4 := Lib.hid hg4; clear hL4 hg4 hv4) | (go_simp; go_at_call 87; refine (variable_any _ _).mono ?_; rintro e w2 ⟨rfl, hf2⟩; have HF2 : Hid (Fr [] wr w2) := Lib.hid ((Fr.refl [] wr).drew.trans hf2); have HS2 := Lib.hid (HS.out.keep0 HF2.out); have s2 : w2.cell? ⟨w.heap.size, 1, none⟩ = some (.slice pt i ct) := HS2.out.blk.cell 1; have sl2 : w.heap.size < w2.heap.size := HS2.out.blk.lt; obtain ⟨g1, g2, g3, g4⟩ := ownl_ready2 (news := [.int .i64 9, .int .i64 i, .slice none 0 0, .slice none 0 0, .int .i64 i]) (qb := qTm ⟨Un.var i, [], i⟩) (by have := HS2.out.l; rw [Un.fresh_len] at this; exact this) (by omega) (TmV.mk (x := ⟨Un.var i, [], i⟩) (TyV.mk (TysV.nil none 0)) (InN.slNil none 0)) 109; have G1 := Lib.hid g1; have G2 := Lib.hid g2; have G3 := Lib.hid g3; clear g1 g2 g3 hf2))
      all_goals
        have hSW : SolV (w4.setCell ⟨w.heap.size, 1, none⟩ (.slice p' (i + 1) c')) (fun _ => True) w.heap.size n (Un.fresh (i + 1)) (.slice p' (i + 1) c') :=
          ⟨hD4.out.set 1 _, by rw [Un.fresh_len, Un.fresh, rowsQ_snoc]; exact HL4.out.keep (X := [w.heap.size]) ((Fr.refl [w.heap.size] _).setCell (.inl (by simp)) _) (by simp)⟩
        have hFW : Fr [] w (w4.setCell ⟨w.heap.size, 1, none⟩ (.slice p' (i + 1) c')) :=
          ((((HFR.out.trans HF2.out).alloc (.cells #[.int .i64 9, .int .i64 i, .slice none 0 0, .slice none 0 0, .int .i64 i] 109)).grown HG4.out (fun k hk => .inr (by have := (G1.out.own k hk).1; omega)))).setCell (.inr (Nat.le_refl _)) _
        have HSW := Lib.hid hSW
        have HFW := Lib.hid hFW
        clear hSW hFW hk4 hf4 s1 sl s1d s2 sl2 g4
        go_wp2_with fail
        go_roundw
        case rel => exact ⟨i + 1, _, by go_num, by omega, HFW, HSW⟩
        case measure => simp [RowKit.intOf]; omega
    · have hd2 : decide ((i : Int) < (n : Int)) = false := by simp; omega
      have hd3 : decide (i < n) = false := by simpa using hlt
      obtain rfl : i = n := by omega
      go_wp2_with fail
      obtain ⟨wo, hwo⟩ : ∃ wo : World, wo = wr := ⟨_, rfl⟩
      subst hwo
      go_loopw [32] (fun x wr2 => ∃ j : Nat, x = .int .i64 j ∧ j ≤ i ∧ Hid (Fr [] wo wr2)) (fun x _ => i - (RowKit.intOf x).toNat)
      case atStart => exact ⟨0, rfl, Nat.zero_le _, Lib.hid (Fr.refl _ _)⟩
      case round =>
        obtain ⟨j, rfl, hj, HF3⟩ := hrel
        by_cases hlt2 : j < i
        · have hd4 : decide ((j : Int) < (i : Int)) = true := by simp; omega
          have hd5 : decide (j < i) = true := by simpa using hlt2
          have hjs : j < s.length := by have := HN.out; omega
          obtain ⟨bb, o, rfl, hat⟩ : ∃ bb o, ps = some ⟨bb, o, none⟩ ∧ TysAt w N s bb o := by
            have h0 := HV.out
            rw [HN.out] at h0
            rcases h0.cases with ⟨rfl, _⟩ | ⟨_, bb, o, cap, heq, _, _, hat⟩
            · simp at hjs
            · simp only [Value.slice.injEq] at heq
              exact ⟨bb, o, heq.1, hat⟩
          obtain ⟨p1, c1, k1, hb, g0, g1, g2⟩ := hat.el (HFR.out.trans HF3.out) (by simp) (List.getElem?_eq_getElem hjs)
          have hz := HZ.out _ (List.getElem_mem hjs)
          rw [hz] at k1 g0 g1 g2
          have hu : unsolved Un.zero = true := by decide
          have K1 := Lib.hid k1
          have HU := Lib.hid hu
          simp only [Un.zero, kd, nm, ar, List.length_nil] at g0 g1 g2 K1
          clear k1 hz hat hu
          go_wp2_with fail
          have hf0 : Fr [] wr (wr.alloc (.cells #[.int .i64 0, .int .i64 0, .slice p1 0 c1] 24)) := (Fr.refl _ _).alloc _
          refine (isunsolved_any Un.zero _ _ N (K1.out.keep0 hf0)).mono ?_
          rw [HU.out]
          rintro e w5 ⟨rfl, hf5⟩
          have HF5 := Lib.hid (HF3.out.trans (hf0.trans hf5))
          clear hf0 hf5 g0 g1 g2
          go_wp2_with fail
          go_roundw
          case rel => exact ⟨j + 1, by go_num, by omega, HF5⟩
          case measure => simp [RowKit.intOf]; omega
        · have hd4 : decide ((j : Int) < (i : Int)) = false := by simp; omega
          have hd5 : decide (j < i) = false := by simpa using hlt2
          go_wp2_with fail
          go_ret
          refine ⟨rfl, HFR.out.trans HF3.out, .slice pt i ct, ?_⟩
          have h1 := HS.out
          exact h1.keep0 HF3.out
end Go.Proofs.Ytkhbgdhgjbnhpaa
