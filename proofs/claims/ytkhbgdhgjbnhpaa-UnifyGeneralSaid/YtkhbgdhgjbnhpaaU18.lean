/-
  The walk of speaker.
-/
import Derived.Test.YtkhbgdhgjbnhpaaU17
import Derived.Deep.LoopGhost
set_option linter.unusedVariables false
set_option linter.unusedSimpArgs false
set_option linter.unusedSectionVars false
namespace Go.Proofs.Ytkhbgdhgjbnhpaa
open Go.RowKit Go.Lib
open Un (kd nm ar size sizes depth depths)

namespace Un
def tm? (ts : List Tm) (i : Int) : Option Tm := if 0 ≤ i then ts[i.toNat]? else none
def setNext (ts : List Tm) (i : Nat) (x : Int) : List Tm := match ts[i]? with
  | some a => ts.set i { a with next := x }
  | none => ts
/-- the term that speaks for a class; the way to it is shortened -/
def speaker : Nat → List Tm → Int → Option (List Tm × Int)
  | 0, _, _ => none
  | f + 1, ts, i => match tm? ts i with
    | none => none
    | some a => if a.next = i then some (ts, i) else match tm? ts a.next with
      | none => none
      | some c => speaker f (setNext ts i.toNat c.next) c.next
theorem setNext_len (ts : List Tm) (i : Nat) (x : Int) : (setNext ts i x).length = ts.length := by
  unfold setNext
  cases ts[i]? <;> simp
theorem setNext_eq {ts : List Tm} {i : Nat} (h : i < ts.length) (x : Int) : setNext ts i x = ts.set i { ts[i] with next := x } := by
  unfold setNext
  rw [List.getElem?_eq_getElem h]
theorem speaker_len : ∀ {f : Nat} {ts ts' : List Tm} {i r : Int}, speaker f ts i = some (ts', r) → ts'.length = ts.length ∧ 0 ≤ r ∧ r < ts.length
  | 0, _, _, _, _, h => by simp [speaker] at h
  | f + 1, ts, ts', i, r, h => by
    rw [speaker] at h
    cases h1 : tm? ts i with
    | none => simp [h1] at h
    | some a =>
      rw [h1] at h
      simp only at h
      split at h
      · simp only [Option.some.injEq, Prod.mk.injEq] at h
        obtain ⟨rfl, rfl⟩ := h
        unfold tm? at h1
        split at h1
        · rename_i h0
          have := (List.getElem?_eq_some_iff.1 h1).1
          exact ⟨rfl, h0, by omega⟩
        · cases h1
      · cases h2 : tm? ts a.next with
        | none => simp [h2] at h
        | some c =>
          rw [h2] at h
          have := speaker_len h
          rw [setNext_len] at this
          exact this
end Un
open Un (tm? setNext speaker)
theorem tm_some {ts : List Tm} {i : Int} {a : Tm} (h : tm? ts i = some a) : ∃ j : Nat, i = j ∧ j < ts.length ∧ ts[j]? = some a := by
  unfold tm? at h
  split at h
  · rename_i h0
    exact ⟨i.toNat, by omega, (List.getElem?_eq_some_iff.1 h).1, h⟩
  · cases h
/-- the rows with one number turned -/
theorem inn_setNext {w : World} {N : Nat → Prop} : ∀ {ts : List Tm} {xs : List Value} {i : Nat} (x : Int), InN w N (rowsQ qTm ts) xs → i < ts.length → InN w N (rowsQ qTm (setNext ts i x)) (xs.set (i * 5 + 4) (.int .i64 x))
  | [], _, _, _, _, hi => by simp at hi
  | a :: r, xs, 0, x, h, hi => by
    rw [Un.setNext_eq hi]
    simp only [List.getElem_cons_zero, List.set_cons_zero]
    rw [rowsQ] at h ⊢
    obtain ⟨c, d, rfl, h1, h2⟩ := h.split
    unfold qTm at h1
    obtain ⟨c1, c2, rfl, k1, k2⟩ := h1.split
    obtain ⟨p, cc, rfl, _⟩ := TyV.shape k1
    obtain ⟨pv, cv, c3, rfl, k3, k4⟩ := inn_sl k2
    obtain ⟨c4, rfl, k5⟩ := inn_int k4
    obtain rfl := inn_nil k5
    refine InN.app (cs := [.int .i64 (kd a.t), .int .i64 (nm a.t), .slice p (ar a.t).length cc, .slice pv a.args.length cv, .int .i64 x]) ?_ h2
    exact InN.app (y := .sl 3 1 a.args.length (rowsQ qInt a.args) (.int x .nil)) k1 (InN.mk_sl k3 (InN.mk_int (InN.mk_nil _ _)))
  | a :: r, xs, i + 1, x, h, hi => by
    rw [Un.setNext_eq hi]
    simp only [List.getElem_cons_succ, List.set_cons_succ]
    rw [rowsQ] at h ⊢
    obtain ⟨c, d, rfl, h1, h2⟩ := h.split
    have hl : c.length = 5 := by rw [h1.len, ln_qTm]
    have := inn_setNext x h2 (i := i) (by simpa using hi)
    rw [Un.setNext_eq (by simpa using hi)] at this
    rw [List.set_append_right _ _ (by omega), hl, show (i + 1) * 5 + 4 - 5 = i * 5 + 4 by omega]
    exact InN.app h1 this
/-- a term in memory -/
theorem SolV.el {w : World} {N : Nat → Prop} {b : Nat} {n : Int} {ts : List Tm} {tv : Value} (h : SolV w N b n ts tv) {i : Nat} {a : Tm} (hi : ts[i]? = some a) :
    ∃ g cap p c pv cv, tv = .slice (some ⟨g, 0, none⟩) ts.length cap ∧ ts.length ≤ cap ∧ cap ≤ maxLen ∧ b < g ∧ g < w.heap.size ∧
      w.cell? ⟨g, i * 5, none⟩ = some (.int .i64 (kd a.t)) ∧ w.cell? ⟨g, i * 5 + 1, none⟩ = some (.int .i64 (nm a.t)) ∧ w.cell? ⟨g, i * 5 + 2, none⟩ = some (.slice p (ar a.t).length c) ∧ w.cell? ⟨g, i * 5 + 3, none⟩ = some (.slice pv a.args.length cv) ∧ w.cell? ⟨g, i * 5 + 4, none⟩ = some (.int .i64 a.next) ∧ (∀ o, w.frozen? ⟨g, o, none⟩ = false) ∧
      TyV w (fun k => (k ≠ b ∧ N k) ∧ g ≠ k) a.t [.int .i64 (kd a.t), .int .i64 (nm a.t), .slice p (ar a.t).length c] ∧ IntsV w (fun k => (k ≠ b ∧ N k) ∧ g ≠ k) a.args (.slice pv a.args.length cv) := by
  obtain ⟨xs, h1, hq⟩ := h.l
  have hlt : i < ts.length := (List.getElem?_eq_some_iff.1 hi).1
  rcases h1.2 with ⟨_, h0⟩ | ⟨g, cap, cur, rfl, hB, hg, c1, c2, c3, c4⟩
  · omega
  · obtain ⟨ds, k1, k2, k3⟩ := InN.get (f := qTm) (s := 5) ln_qTm ts xs i a hq hi
    unfold qTm at k1
    obtain ⟨d1, d2, rfl, m1, m2⟩ := k1.split
    obtain ⟨p, c, rfl, _⟩ := TyV.shape m1
    obtain ⟨pv, cv, d3, rfl, m3, m4⟩ := inn_sl m2
    obtain ⟨d4, rfl, m5⟩ := inn_int m4
    obtain rfl := inn_nil m5
    have hcell : ∀ j, j < 5 → w.cell? ⟨g, i * 5 + j, none⟩ = [Value.int .i64 (kd a.t), .int .i64 (nm a.t), .slice p (ar a.t).length c, .slice pv a.args.length cv, .int .i64 a.next][j]? := fun j hj => by
      have h2 := k3 j hj
      rw [(show w.cell? ⟨g, i * 5 + j, none⟩ = cur[i * 5 + j]? from Blk.cell hg _)]
      rw [← c4, List.getElem?_take, if_pos (by omega)] at h2
      simpa using h2
    refine ⟨g, cap, p, c, pv, cv, rfl, c1, c2, by omega, (Array.getElem?_eq_some_iff.1 hg).1, hcell 0 (by omega), hcell 1 (by omega), hcell 2 (by omega), hcell 3 (by omega), hcell 4 (by omega), fun o => Blk.frozen hg o, ?_, ?_⟩
    · exact InN.weak m1 (fun k _ hk => ⟨hk.1, fun e => hk.2 (by rw [← e]; rfl)⟩)
    · exact InN.weak m3 (fun k _ hk => ⟨hk.1, fun e => hk.2 (by rw [← e]; rfl)⟩)
/-- a term leads to another one -/
theorem SolV.set {w : World} {N : Nat → Prop} {b : Nat} {n : Int} {ts : List Tm} {g cap : Nat} (h : SolV w N b n ts (.slice (some ⟨g, 0, none⟩) ts.length cap)) {i : Nat} (hi : i < ts.length) (x : Int) :
    SolV (w.setCell ⟨g, i * 5 + 4, none⟩ (.int .i64 x)) N b n (setNext ts i x) (.slice (some ⟨g, 0, none⟩) ts.length cap) := by
  obtain ⟨hb, xs, h1, hq⟩ := h
  rcases h1.2 with ⟨_, h0⟩ | ⟨g', cap', cur, he, hB, hg, c1, c2, c3, c4⟩
  · omega
  · simp only [Value.slice.injEq, Option.some.injEq, Addr.mk.injEq, and_true, true_and] at he
    obtain ⟨rfl, rfl⟩ := he
    have hgb : b ≠ g := by omega
    refine ⟨hb.other hgb _, xs.set (i * 5 + 4) (.int .i64 x), ⟨?_, .inr ⟨g, cap, cur.setIfInBounds (i * 5 + 4) (.int .i64 x), by rw [Un.setNext_len], hB, Blk.set hg _ _, by rw [Un.setNext_len]; exact c1, c2, by simpa using c3, ?_⟩⟩, ?_⟩
    · rw [List.length_set, h1.1, Un.setNext_len]
    · rw [Un.setNext_len]
      rw [Array.toList_setIfInBounds, List.take_set, c4]
    · exact (inn_setNext x hq hi).mono (fun k hk hl => ⟨hk, by simpa [World.setCell] using hl, Below.heap_setCell _ _ _ _ (fun e => hk.2 (by rw [e]; rfl))⟩)
theorem SolFr.set {w : World} {b g o n cap : Nat} (x : Value) : SolFr b (.slice (some ⟨g, 0, none⟩) n cap) (.slice (some ⟨g, 0, none⟩) n cap) w (w.setCell ⟨g, o, none⟩ x) :=
  ⟨by simp [World.setCell], rfl, rfl, rfl, fun k _ _ ho => Below.heap_setCell _ _ _ _ (fun e => ho (by rw [e]; rfl)), fun _ h => .inl h⟩
set_option maxRecDepth 100000 in
set_option maxHeartbeats 3200000 in
theorem speaker_any (b : Nat) (n : Int) (N : Nat → Prop) (f : Nat) (ts ts' : List Tm) (i r : Int) (tv : Value) (w : World) (hS : SolV w N b n ts tv) (hr : speaker f ts i = some (ts', r)) :
    Calls Try.prog 88 #[.pointer (some ⟨b, 0, none⟩), .int .i64 i] w fun e w' => e = .returned (.int .i64 r) ∧ SolV w' N b n ts' tv ∧ SolFr b tv tv w w' := by
  have HS := Lib.hid hS
  have HR := Lib.hid hr
  clear hS hr
  go_enter Try.func88, Try.ntmps88
  go_wp2_with fail
  go_loopg [1] f (fun gg x wr => ∃ (j : Int) (ts1 : List Tm), x = .int .i64 j ∧ Hid (speaker gg ts1 j = some (ts', r)) ∧ Hid (SolV wr N b n ts1 tv) ∧ Hid (SolFr b tv tv w wr))
  case atStart => exact ⟨i, ts, rfl, HR, HS, Lib.hid (SolFr.refl _ _ _)⟩
  case round =>
    obtain ⟨j, ts1, rfl, HQ, HS1, HFR⟩ := hrel
    obtain ⟨a, f1, h1, hg, hcase⟩ : ∃ a f1, tm? ts1 j = some a ∧ gk = f1 + 1 ∧ ((a.next = j ∧ ts' = ts1 ∧ r = j) ∨ (a.next ≠ j ∧ ∃ c, tm? ts1 a.next = some c ∧ speaker f1 (setNext ts1 j.toNat c.next) c.next = some (ts', r))) := by
      have h0 := HQ.out
      cases gk with
      | zero => simp [speaker] at h0
      | succ f1 =>
        rw [speaker] at h0
        cases h1 : tm? ts1 j with
        | none => simp [h1] at h0
        | some a =>
          rw [h1] at h0
          simp only at h0
          by_cases e : a.next = j
          · rw [if_pos e] at h0
            simp only [Option.some.injEq, Prod.mk.injEq] at h0
            exact ⟨a, f1, rfl, rfl, .inl ⟨e, h0.1.symm, h0.2.symm⟩⟩
          · rw [if_neg e] at h0
            cases h2 : tm? ts1 a.next with
            | none => simp [h2] at h0
            | some c =>
              rw [h2] at h0
              exact ⟨a, f1, rfl, rfl, .inr ⟨e, c, h2, h0⟩⟩
    obtain ⟨k, rfl, hk, hka⟩ := tm_some h1
    obtain ⟨g, cap, p, c, pv, cv, rfl, q1, q2, q3, q4, e0, e1, e2, e3, e4, q5, q6, q7⟩ := HS1.out.el hka
    unfold maxLen at q2
    have s1 : wr.cell? ⟨b, 1, none⟩ = some (.slice (some ⟨g, 0, none⟩) ts1.length cap) := HS1.out.blk.cell 1
    have sl : b < wr.heap.size := HS1.out.blk.lt
    have hd : decide (k < ts1.length) = true := by simpa using hk
    have hd2 : decide ((k : Int) < (ts1.length : Int)) = true := by simp; omega
    have hg2 := hg
    subst hg2
    rcases hcase with ⟨hn, rfl, rfl⟩ | ⟨hn, c2, h2, hsp⟩
    · rw [hn] at e4
      have hne : ((k : Int) != (k : Int)) = false := by simp
      clear h1 hka e0 e1 e2 e3 q5 q6 q7 hn hg
      go_wp2_with fail
      go_ret
      exact ⟨rfl, HS1.out, HFR.out⟩
    · obtain ⟨k2, hk2, hk2l, hk2a⟩ := tm_some h2
      obtain ⟨g', cap', p', c', pv', cv', heq, _, _, _, _, _, _, _, _, e4', _, _, _⟩ := HS1.out.el hk2a
      simp only [Value.slice.injEq, Option.some.injEq, Addr.mk.injEq, and_true, true_and] at heq
      obtain ⟨rfl, rfl⟩ := heq
      rw [hk2] at e4 hn
      have hne : ((k2 : Int) != (k : Int)) = true := by simp; omega
      have hd3 : decide (k2 < ts1.length) = true := by simpa using hk2l
      have hd4 : decide ((k2 : Int) < (ts1.length : Int)) = true := by simp; omega
      have HSP := Lib.hid hsp
      have HK := Lib.hid hk
      have f4 : wr.frozen? ⟨g, k * 5 + 4, none⟩ = false := q5 _
      clear h1 h2 hka hk2a e0 e1 e2 e3 q5 q6 q7 hn hg hsp hk2
      go_wp2_with fail
      go_still_tail 22, (by kernel_rfl)
      change wpList _ _ _ _ _ wr.drew
      have HS2 := Lib.hid (HS1.out.keep0 ((Fr.refl [] wr).drew))
      have HF2 : Hid (SolFr b (.slice (some ⟨g, 0, none⟩) ts1.length cap) (.slice (some ⟨g, 0, none⟩) ts1.length cap) w wr.drew) := Lib.hid (HFR.out.trans (SolFr.of_fr ((Fr.refl [] wr).drew)))
      clear s1 sl f4 e4 e4' HS1 HFR q4
      generalize wr.drew = w2 at HS2 HF2
      have s1 : w2.cell? ⟨b, 1, none⟩ = some (.slice (some ⟨g, 0, none⟩) ts1.length cap) := HS2.out.blk.cell 1
      have sl : b < w2.heap.size := HS2.out.blk.lt
      obtain ⟨g', cap', p', c', pv', cv', heq, _, _, _, q4, _, _, _, _, e4, q5, _, _⟩ := HS2.out.el (List.getElem?_eq_getElem HK.out)
      simp only [Value.slice.injEq, Option.some.injEq, Addr.mk.injEq, and_true, true_and] at heq
      obtain ⟨rfl, rfl⟩ := heq
      have f4 : w2.frozen? ⟨g, k * 5 + 4, none⟩ = false := q5 _
      have hbg : b ≠ g := by omega
      clear q5
      go_wp2_with fail
      go_roundg f1
      case measure => omega
      case rel => exact ⟨c2.next, setNext ts1 k c2.next, rfl, HSP, Lib.hid (HS2.out.set HK.out _), Lib.hid (HF2.out.trans (SolFr.set _))⟩
end Go.Proofs.Ytkhbgdhgjbnhpaa
