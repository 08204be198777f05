/-
  The walk of solution.
-/
import Derived.Test.YtkhbgdhgjbnhpaaU22
set_option linter.unusedVariables false
set_option linter.unusedSimpArgs false
set_option linter.unusedSectionVars false
namespace Go.Proofs.Ytkhbgdhgjbnhpaa
open Go.RowKit Go.Lib
open Un (kd nm ar size sizes unsolved speaker)

namespace Un
/-- one round of solution -/
def solStep (f n i : Nat) (x : List Tm × (Int → Option Int) × List Ty) : Option (List Tm × (Int → Option Int) × List Ty) :=
  match speaker f x.1 i with
  | none => none
  | some (ts, sp) => match x.2.1 sp with
    | some k => some (ts, x.2.1, x.2.2.set i (var k))
    | none => some (ts, (fun j => if j = sp then some (i : Int) else x.2.1 j), if n ≤ sp.toNat then x.2.2.set i (((ts[sp.toNat]?).map Tm.t).getD zero) else x.2.2)
def sol (f n : Nat) (ts : List Tm) : Nat → Option (List Tm × (Int → Option Int) × List Ty)
  | 0 => some (ts, fun _ => none, List.replicate n zero)
  | i + 1 => match sol f n ts i with
    | none => none
    | some x => solStep f n i x
theorem sol_some {f n : Nat} {ts : List Tm} {y : List Tm × (Int → Option Int) × List Ty} : ∀ {k i : Nat}, i ≤ k → sol f n ts k = some y → ∃ x, sol f n ts i = some x
  | 0, i, h, hs => by obtain rfl : i = 0 := by omega
                      exact ⟨_, hs⟩
  | k + 1, i, h, hs => by
    rw [sol] at hs
    cases h1 : sol f n ts k with
    | none => simp [h1] at hs
    | some x =>
      by_cases e : i = k + 1
      · subst e
        rw [sol, h1]
        rw [h1] at hs
        exact ⟨_, hs⟩
      · exact sol_some (by omega) h1
theorem solStep_len {f n i : Nat} {x y : List Tm × (Int → Option Int) × List Ty} (h : solStep f n i x = some y) : y.1.length = x.1.length ∧ y.2.2.length = x.2.2.length := by
  unfold solStep at h
  cases h1 : speaker f x.1 i with
  | none => simp [h1] at h
  | some z =>
    obtain ⟨ts, sp⟩ := z
    have h2 := (speaker_len h1).1
    rw [h1] at h
    simp only at h
    cases h3 : x.2.1 sp with
    | some k =>
      rw [h3] at h
      simp only [Option.some.injEq] at h
      subst h
      exact ⟨h2, by simp⟩
    | none =>
      rw [h3] at h
      simp only [Option.some.injEq] at h
      subst h
      refine ⟨h2, ?_⟩
      simp only
      split <;> simp
theorem sol_len {f n : Nat} {ts : List Tm} : ∀ {i : Nat} {y : List Tm × (Int → Option Int) × List Ty}, sol f n ts i = some y → y.1.length = ts.length ∧ y.2.2.length = n
  | 0, y, h => by
    rw [sol] at h
    simp only [Option.some.injEq] at h
    subst h
    exact ⟨rfl, by simp⟩
  | i + 1, y, h => by
    rw [sol] at h
    cases h1 : sol f n ts i with
    | none => simp [h1] at h
    | some x =>
      rw [h1] at h
      have h2 := sol_len h1
      have h3 := solStep_len h
      exact ⟨h3.1.trans h2.1, h3.2.trans h2.2⟩
end Un
def SolutionP (b : Nat) (out : List Ty) (tv : Value) (w : World) (e : Ending) (w' : World) : Prop := ∃ v, e = .returned v ∧ TysV w' (fun _ => True) out v ∧ SolFr b tv tv w w'
set_option maxRecDepth 100000 in
set_option maxHeartbeats 3200000 in
theorem solution_any (b n : Nat) (N : Nat → Prop) (f : Nat) (ts ts' : List Tm) (lst : Int → Option Int) (out : List Ty) (tv : Value) (w : World) (hS : SolV w N b n ts tv) (hn : n ≤ 1000) (hr : Un.sol f n ts n = some (ts', lst, out)) :
    Calls Try.prog 69 #[.pointer (some ⟨b, 0, none⟩)] w (SolutionP b out tv w) := by
  obtain ⟨K, hKd⟩ : ∃ K : Nat → Prop, K = fun k => k < w.heap.size ∧ k ≠ b ∧ tv.ownBlock ≠ some k := ⟨_, rfl⟩
  have HKd := Lib.hid hKd
  have hbl := hS.lt
  have hown : ∀ k, tv.ownBlock = some k → b + 1 ≤ k ∧ k < w.heap.size := hS.l.own
  have HOW := Lib.hid hown
  have HBL := Lib.hid hbl
  have HS := Lib.hid (hS.weak (N' := fun k => k < w.heap.size) (fun k hk _ => hk))
  have HR := Lib.hid hr
  have hmm := @run_makeMap Try.prog
  obtain ⟨j0, hj0, jz0, jz1, jz2⟩ := info_parts info_ty
  have hms : ∀ w1 : World, (Instr.makeSlice 22 (.int .i64 (n : Int)) (.int .i64 (n : Int))).run Try.prog w1 = .ok (.slice (some ⟨w1.heap.size, 0, none⟩) n n) (w1.alloc (.cells (madeCells #[.int .i64 0, .int .i64 0, .slice none 0 0] (n * 3)) 24)) := fun w1 => by
    have := run_makeSlice w1 22 24 j0 _ Try.underlying22 hj0 jz0 .i64 .i64 n n (by omega) (Int.le_refl _) (by rw [jz1]; simp; omega) (by rw [jz2]; omega) (by omega)
    rw [jz1] at this
    simpa [Value.cells] using this
  clear hS hr hKd hbl hown hj0 jz0 jz1 jz2
  go_enter Try.func69, Try.ntmps69
  have s0 : w.cell? ⟨b, 0, none⟩ = some (.int .i64 n) := HS.out.blk.cell 0
  have hb0 : b < w.heap.size := HBL.out
  go_wp2_with fail
  have hF0 : Fr [] w ((w.alloc (.map #[] 0)).alloc (.cells (madeCells #[.int .i64 0, .int .i64 0, .slice none 0 0] (n * 3)) 24)) := ((Fr.refl _ _).alloc _).alloc _
  have HA0 : Hid (ArrV ((w.alloc (.map #[] 0)).alloc (.cells (madeCells #[.int .i64 0, .int .i64 0, .slice none 0 0] (n * 3)) 24)) K (w.heap.size + 1) (List.replicate n Un.zero)) := Lib.hid (by
    have := ArrV.made (w.alloc (.map #[] 0)) K n
    rwa [show (w.alloc (.map #[] 0)).heap.size = w.heap.size + 1 from by simp] at this)
  have HM0 : Hid (MapII ((w.alloc (.map #[] 0)).alloc (.cells (madeCells #[.int .i64 0, .int .i64 0, .slice none 0 0] (n * 3)) 24)) w.heap.size 0 (fun _ => none)) := Lib.hid ((MapII.made w).keep ((Fr.refl [] _).alloc _) (by simp))
  have HF0 := Lib.hid hF0
  clear hF0 s0
  go_loopw [17] (fun x wr => ∃ (i : Nat) (tsi : List Tm) (lsti : Int → Option Int) (outi : List Ty), x = .int .i64 i ∧ i ≤ n ∧ Hid (Un.sol f n ts i = some (tsi, lsti, outi)) ∧ Hid (SolV wr (fun k => k < w.heap.size) b n tsi tv) ∧ Hid (MapII wr w.heap.size i lsti) ∧ Hid (ArrV wr K (w.heap.size + 1) outi) ∧ Hid (SolFr b tv tv w wr)) (fun x _ => n - (RowKit.intOf x).toNat)
  case atStart => exact ⟨0, ts, _, _, rfl, Nat.zero_le _, Lib.hid rfl, Lib.hid (HS.out.keep0 HF0.out), HM0, HA0, Lib.hid (SolFr.of_fr HF0.out)⟩
  case round =>
    obtain ⟨i, tsi, lsti, outi, rfl, hi, HQ, HS1, HM1, HA1, HF1⟩ := hrel
    clear HS HA0 HM0 HF0 hmm hms
    by_cases hlt : i < n
    · have hd2 : decide ((i : Int) < (n : Int)) = true := by simp; omega
      have hd3 : decide (i < n) = true := by simpa using hlt
      obtain ⟨y, hy⟩ := Un.sol_some (i := i + 1) (by omega) HR.out
      have HY := Lib.hid hy
      rw [Un.sol, HQ.out] at hy
      simp only at hy
      unfold Un.solStep at hy
      simp only at hy
      obtain ⟨ts2, sp, hsp⟩ : ∃ ts2 sp, speaker f tsi i = some (ts2, sp) := by
        cases h1 : speaker f tsi i with
        | none => simp [h1] at hy
        | some z => exact ⟨z.1, z.2, rfl⟩
      rw [hsp] at hy
      simp only at hy
      have hl1 := Un.speaker_len hsp
      have HL1 := Lib.hid hl1
      have HSP := Lib.hid hsp
      have HYY := Lib.hid hy
      have HLO := Lib.hid (Un.sol_len HQ.out)
      clear hsp hy hl1
      go_wp2_with fail
      refine (speaker_any b n _ f tsi ts2 i sp tv wr HS1.out HSP.out).mono ?_
      rintro e w2 ⟨rfl, hS2, hF2⟩
      have HS2 := Lib.hid hS2
      have HF2 := Lib.hid (HF1.out.trans hF2)
      have hne : ∀ k, w.heap.size ≤ k → k ≠ b ∧ tv.ownBlock ≠ some k := fun k hk => ⟨by have := HBL.out; omega, fun h => by have := (HOW.out k h).2; omega⟩
      have HM2 := Lib.hid (HM1.out.stay (hF2.block _ HM1.out.lt (hne _ (Nat.le_refl _)).1 (hne _ (Nat.le_refl _)).2))
      have HA2 := Lib.hid (HA1.out.stay hF2.size (hF2.block _ HA1.out.lt (hne _ (by omega)).1 (hne _ (by omega)).2) (fun k hk hK => by
        rw [HKd.out] at hK
        exact hF2.block k hk hK.2.1 hK.2.2))
      obtain ⟨g, c, rfl⟩ := hS2.shape
      have hwsp : (Lit.int .i64 sp).wf = true := by
        have h1 := HL1.out
        have h2 : ts2.length ≤ 9223372036854775807 := by
          rcases hS2.l with ⟨xs, ⟨_, h | ⟨_, _, _, he, _, _, h2, h3, _⟩⟩, _⟩
          · have := h.2; omega
          · have := h2; unfold maxLen at h3; omega
        exact WalkArith.wf_i64 (by omega)
      clear hS2 hF2 HS1 HM1 HA1 HF1
      have hKe : ¬ K (w.heap.size + 1) := by rw [HKd.out]; intro h; have := h.1; omega
      have hKm : ¬ K w.heap.size := by rw [HKd.out]; intro h; have := h.1; omega
      have HKE := Lib.hid hKe
      have HKM := Lib.hid hKm
      have HNE := Lib.hid hne
      clear hKe hKm hne
      rcases hls : lsti sp with _ | k
      · have hq := HYY.out
        rw [hls] at hq
        simp only [Option.some.injEq] at hq
        have HQ3 := Lib.hid hq
        clear hq
        by_cases hsn : (n : Int) ≤ sp
        · obtain ⟨q, rfl⟩ : ∃ q : Nat, sp = q := ⟨sp.toNat, by have := HL1.out; omega⟩
          have hd4 : decide ((n : Int) ≤ (q : Int)) = true := by simpa using hsn
          have hd5 : decide (n ≤ q) = true := by simp; omega
          have hql : q < ts2.length := by have := HL1.out; omega
          have hd6 : decide ((q : Int) < (ts2.length : Int)) = true := by simp; omega
          have hd7 : decide (q < ts2.length) = true := by simpa using hql
          have HQL := Lib.hid hql
          clear hql
          go_wp2_with (first | (at_lookup; refine wpList_look_ii _ rfl _ _ 99 rfl Try.underlying99 _ _ lsti rfl HM2.out q rfl hwsp ?_; rw [hls]; simp only [Option.getD_none, Option.isSome_none]) | (at_mapUpdate; refine wpList_put_ii _ rfl _ _ _ 99 rfl Try.underlying99 _ i lsti rfl HM2.out (by omega) q i rfl rfl hwsp (WalkArith.wf_i64 (by omega)) ?_; intro w3 hM3 hf3; have HM3 := Lib.hid hM3; have HF3 := Lib.hid hf3; have HS3 := Lib.hid (HS2.out.beside hf3 (fun k hk => by simp only [List.mem_singleton] at hk; subst hk; exact ⟨(HNE.out _ (Nat.le_refl _)).1, (HNE.out _ (Nat.le_refl _)).2, by omega⟩)); have HA3 := Lib.hid (HA2.out.keep hf3 (by simp) (fun k hk => by simp only [List.mem_singleton] at hk; subst hk; exact HKM.out)); clear hM3 hf3; have s0 : w3.cell? ⟨b, 0, none⟩ = some (.int .i64 n) := HS3.out.blk.cell 0; have s1 : w3.cell? ⟨b, 1, none⟩ = some (.slice g ts2.length c) := HS3.out.blk.cell 1; have sl : b < w3.heap.size := HS3.out.blk.lt; obtain ⟨g0, cap, p2, c2, pv, cv, he, q1, q2, _, q4, e0, e1, e2, _, _, _, q6, _⟩ := HS3.out.el (List.getElem?_eq_getElem HQL.out); simp only [Value.slice.injEq, true_and] at he; obtain ⟨rfl, rfl⟩ := he; obtain ⟨p5, c5, _, r0, r1, r2, r3⟩ := HA3.out.el (List.getElem?_eq_getElem (show i < outi.length by have := HLO.out.2; omega)); have r4 := HA3.out.lt; have Q6 := Lib.hid q6; clear q6; have t0 := r3 (i * 3); have t1 := r3 (i * 3 + 1); have t2 := r3 (i * 3 + 2); clear r3))
          go_roundw
          case rel =>
            have hts : ts2[q]? = some ts2[q] := List.getElem?_eq_getElem HQL.out
            refine ⟨i + 1, ts2, _, outi.set i (ts2[q]'HQL.out).t, by go_num, by omega, Lib.hid ?_, Lib.hid (HS3.out.beside (Fr.cells3 _ _ _ _ _ _) (fun k hk => ?_)), Lib.hid (HM3.out.keep (Fr.cells3 _ _ _ _ _ _) (by simp)), Lib.hid (HA3.out.set (by have := HLO.out.2; omega) (TyV.weak Q6.out (fun k _ hk => ?_)) HKE.out), Lib.hid ((HF2.out.new HF3.out (by simp)).new (Fr.cells3 _ _ _ _ _ _) (by simp))⟩
            · rw [HY.out, ← HQ3.out]
              simp [hts]
              omega
            · simp only [List.mem_singleton] at hk
              subst hk
              exact ⟨(HNE.out _ (by omega)).1, (HNE.out _ (by omega)).2, by omega⟩
            · rw [HKd.out]
              exact ⟨hk.1.2, hk.1.1, fun e => hk.2 (by simpa [Value.ownBlock] using e)⟩
          case measure => simp [RowKit.intOf]; omega
        · have hd4 : decide ((n : Int) ≤ sp) = false := by simpa using hsn
          go_wp2_with (first | (at_lookup; refine wpList_look_ii _ rfl _ _ 99 rfl Try.underlying99 _ _ lsti rfl HM2.out sp rfl hwsp ?_; rw [hls]; simp only [Option.getD_none, Option.isSome_none]) | (at_mapUpdate; refine wpList_put_ii _ rfl _ _ _ 99 rfl Try.underlying99 _ i lsti rfl HM2.out (by omega) sp i rfl rfl hwsp (WalkArith.wf_i64 (by omega)) ?_; intro w3 hM3 hf3; have HM3 := Lib.hid hM3; have HF3 := Lib.hid hf3; have HS3 := Lib.hid (HS2.out.beside hf3 (fun k hk => by simp only [List.mem_singleton] at hk; subst hk; exact ⟨(HNE.out _ (Nat.le_refl _)).1, (HNE.out _ (Nat.le_refl _)).2, by omega⟩)); have HA3 := Lib.hid (HA2.out.keep hf3 (by simp) (fun k hk => by simp only [List.mem_singleton] at hk; subst hk; exact HKM.out)); clear hM3 hf3; have s0 : w3.cell? ⟨b, 0, none⟩ = some (.int .i64 n) := HS3.out.blk.cell 0; have sl : b < w3.heap.size := HS3.out.blk.lt))
          go_roundw
          case rel =>
            refine ⟨i + 1, ts2, _, outi, by go_num, by omega, Lib.hid ?_, HS3, HM3, HA3, Lib.hid (HF2.out.new HF3.out (by simp))⟩
            rw [HY.out, ← HQ3.out]
            simp
            omega
          case measure => simp [RowKit.intOf]; omega
      · have hq := HYY.out
        rw [hls] at hq
        simp only [Option.some.injEq] at hq
        have HQ3 := Lib.hid hq
        clear hq
        go_wp2_with (at_lookup; refine wpList_look_ii _ rfl _ _ 99 rfl Try.underlying99 _ _ lsti rfl HM2.out sp rfl hwsp ?_; rw [hls]; simp only [Option.getD_some, Option.isSome_some])
        refine (variable_any _ _).mono ?_
        rintro e w3 ⟨rfl, hf3⟩
        have HF3 := Lib.hid hf3
        have HA3 := Lib.hid (HA2.out.keep0 hf3)
        clear hf3
        obtain ⟨p5, c5, _, r0, r1, r2, r3⟩ := HA3.out.el (List.getElem?_eq_getElem (show i < outi.length by have := HLO.out.2; omega))
        have r4 := HA3.out.lt
        have t0 := r3 (i * 3)
        have t1 := r3 (i * 3 + 1)
        have t2 := r3 (i * 3 + 2)
        clear r3
        go_wp2_with fail
        go_roundw
        case rel =>
          refine ⟨i + 1, ts2, lsti, outi.set i (Un.var k), by go_num, by omega, Lib.hid ?_, Lib.hid ((HS2.out.keep0 HF3.out).beside (Fr.cells3 _ _ _ _ _ _) (fun k hk => ?_)), Lib.hid (((HM2.out.keep HF3.out (by simp)).keep (Fr.cells3 _ _ _ _ _ _) (by simp)).mono (by omega)), Lib.hid (HA3.out.set (by have := HLO.out.2; omega) (TyV.mk (TysV.nil _ _)) HKE.out), Lib.hid ((HF2.out.new HF3.out (by simp)).new (Fr.cells3 _ _ _ _ _ _) (by simp))⟩
          · rw [HY.out, ← HQ3.out]
          · simp only [List.mem_singleton] at hk
            subst hk
            exact ⟨(HNE.out _ (by omega)).1, (HNE.out _ (by omega)).2, by omega⟩
        case measure => simp [RowKit.intOf]; omega
    · have hd2 : decide ((i : Int) < (n : Int)) = false := by simp; omega
      have hd3 : decide (i < n) = false := by simpa using hlt
      obtain rfl : i = n := by omega
      have hq := HQ.out
      rw [HR.out] at hq
      simp only [Option.some.injEq, Prod.mk.injEq] at hq
      obtain ⟨rfl, rfl, rfl⟩ := hq
      go_wp2_with fail
      go_ret
      have hl := (Un.sol_len HR.out).2
      simp only at hl
      refine ⟨_, rfl, ?_, HF1.out⟩
      have := HA1.out.tysV (N' := fun _ => True) (by omega) (fun _ _ _ => trivial) trivial
      rw [hl] at this
      exact this
end Go.Proofs.Ytkhbgdhgjbnhpaa
