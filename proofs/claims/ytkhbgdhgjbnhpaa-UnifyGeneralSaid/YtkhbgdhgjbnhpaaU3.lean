/-
  The walks of slices.EqualFunc, slices.IndexFunc and slices.ContainsFunc over lists of types, for whatever function.
-/
import Derived.Test.YtkhbgdhgjbnhpaaU2
set_option linter.unusedVariables false
set_option linter.unusedSimpArgs false
set_option linter.unusedSectionVars false
namespace Go.Proofs.Ytkhbgdhgjbnhpaa
open Go.RowKit Go.Lib
open Un (kd nm ar)

/-- two lists are compared by a function that may keep something in mind -/
def eqS {σ : Type} (step : σ → Ty → Ty → σ × Bool) : σ → List Ty → List Ty → σ × Bool
  | s, a :: r, b :: r' => if (step s a b).2 then eqS step (step s a b).1 r r' else ((step s a b).1, false)
  | s, _, _ => (s, true)
def eqF {σ : Type} (step : σ → Ty → Ty → σ × Bool) (s : σ) (l l' : List Ty) : σ × Bool := if l.length = l'.length then eqS step s l l' else (s, false)
theorem eqS_step {σ : Type} {step : σ → Ty → Ty → σ × Bool} {s : σ} {l l' : List Ty} {i : Nat} (h1 : i < l.length) (h2 : i < l'.length) :
    eqS step s (l.drop i) (l'.drop i) = if (step s l[i] l'[i]).2 then eqS step (step s l[i] l'[i]).1 (l.drop (i + 1)) (l'.drop (i + 1)) else ((step s l[i] l'[i]).1, false) := by
  rw [List.drop_eq_getElem_cons h1, List.drop_eq_getElem_cons h2, eqS]
theorem eqS_end {σ : Type} {step : σ → Ty → Ty → σ × Bool} {s : σ} {l l' : List Ty} {i : Nat} (h1 : l.length ≤ i) : eqS step s (l.drop i) (l'.drop i) = (s, true) := by
  rw [List.drop_eq_nil_of_le h1, eqS]
  intro a b c d h; cases h
/-- what a function does with two types -/
def Steps2 {σ : Type} (F : Nat) (caps : Array Value) (X : List Nat) (N : Nat → Prop) (I : σ → World → Prop) (step : σ → Ty → Ty → σ × Bool) (a b : Ty) : Prop :=
  ∀ (s : σ) (cs ds : List Value) (w : World), I s w → TyV w N a cs → TyV w N b ds → Calls Try.prog F (#[.agg cs.toArray, .agg ds.toArray] ++ caps) w fun e w' => e = .returned (.bool (step s a b).2) ∧ Fr X w w' ∧ I (step s a b).1 w'
def EqP {σ : Type} (X : List Nat) (I : σ → World → Prop) (r : σ × Bool) (w : World) (e : Ending) (w' : World) : Prop := e = .returned (.bool r.2) ∧ Fr X w w' ∧ I r.1 w'
set_option maxHeartbeats 1600000 in
theorem equalfunc_any {σ : Type} (F : Nat) (caps : Array Value) (X : List Nat) (N N' : Nat → Prop) (I : σ → World → Prop) (step : σ → Ty → Ty → σ × Bool) (hE : Enters F) (hXN : ∀ k ∈ X, ¬ N k) (hXN' : ∀ k ∈ X, ¬ N' k)
    (hI : ∀ s w w', I s w → Fr [] w w' → I s w') (l l' : List Ty)
    (hF : ∀ a ∈ l, ∀ b ∈ l', ∀ (s : σ) (cs ds : List Value) (w : World), I s w → TyV w N a cs → TyV w N' b ds → Calls Try.prog F (#[.agg cs.toArray, .agg ds.toArray] ++ caps) w (EqP X I (step s a b) w))
    (v v' : Value) (s : σ) (w : World) (hs : I s w) (h : TysV w N l v) (h' : TysV w N' l' v') :
    Calls Try.prog 48 #[v, v', .func (.func F) #[] caps] w (EqP X I (eqF step s l l') w) := by
  have hE' : ∀ (args : Array Value) (w : World), (callFunc F args).run Try.prog w = .ok (.enter F args) w := hE
  have HF := Lib.hid hF
  have HI := Lib.hid hI
  have HS := Lib.hid hs
  have hlm := h.len
  have hlm' := h'.len
  unfold maxLen at hlm hlm'
  clear hF hI hs
  by_cases hlen : l.length = l'.length
  · have hd : ((l.length : Int) != (l'.length : Int)) = false := by rw [hlen]; simp
    have hd' : decide (l.length = l'.length) = true := by simpa using hlen
    have hr : eqF step s l l' = eqS step s l l' := by unfold eqF; rw [if_pos hlen]
    have HR := Lib.hid hr
    have HL := Lib.hid hlen
    clear hr
    rcases h.cases with ⟨rfl, p, c, rfl⟩ | ⟨hn, b, o, cap, rfl, hc, hm, hat⟩
    · have hl' : l' = [] := List.eq_nil_of_length_eq_zero hlen.symm
      subst hl'
      obtain ⟨p', c', rfl⟩ := h'.shape
      clear h h' hlen hd'
      simp only [List.length_nil] at hd hlm hlm' ⊢
      go_enter Try.func48, Try.ntmps48
      go_wp2_with fail
      go_loopw [17] (fun v wr => v = .int .i64 0 ∧ wr = w) (fun v _ => 0)
      case atStart => exact ⟨rfl, rfl⟩
      case round =>
        obtain ⟨rfl, rfl⟩ := hrel
        go_wp2_with fail
        go_ret
        unfold EqP
        rw [HR.out, eqS]
        exact ⟨rfl, Fr.refl _ _, HS.out⟩
        · intro a b c d h; cases h
    · rcases h'.cases with ⟨rfl, p, c, rfl⟩ | ⟨hn', b', o', cap', rfl, hc', hm', hat'⟩
      · exfalso; have h0 : l.length = 0 := hlen; omega
      have hlen2 := hlen
      clear hlen h h' hd'
      obtain ⟨n, hn2⟩ : ∃ n, n = l.length := ⟨_, rfl⟩
      have hn3 : l'.length = n := by omega
      rw [← hn2] at hd hlm hc hn hlen2
      rw [hn3] at hd hlm' hc' hn' hlen2
      have HA := Lib.hid hat
      have HA' := Lib.hid hat'
      have HN2 := Lib.hid hn2
      have HN3 := Lib.hid hn3
      unfold maxLen at hm hm'
      clear hat hat' hlen2 hd hn'
      have hd : ((n : Int) != (n : Int)) = false := by simp
      rw [hn3, ← hn2]
      clear hn2 hn3
      go_enter Try.func48, Try.ntmps48
      go_wp2_with fail
      go_loopw [17] (fun v wr => ∃ (i : Nat) (s' : σ), v = .int .i64 i ∧ i ≤ n ∧ Hid (Fr X w wr) ∧ Hid (I s' wr) ∧ Hid (eqF step s l l' = eqS step s' (l.drop i) (l'.drop i))) (fun v _ => n - (RowKit.intOf v).toNat)
      case atStart => exact ⟨0, s, rfl, by omega, Lib.hid (Fr.refl _ _), HS, Lib.hid (by rw [HR.out]; rfl)⟩
      case round =>
        obtain ⟨i, s', rfl, hi, HFR, HS', HQ⟩ := hrel
        by_cases hlt : i < n
        · have hd2 : decide ((i : Int) < (n : Int)) = true := by simp; omega
          have hd3 : decide (i < n) = true := by simpa using hlt
          have hi1 : i < l.length := by have := HN2.out; omega
          have hi2 : i < l'.length := by have := HN3.out; omega
          obtain ⟨p1, c1, k1, hb, g0, g1, g2⟩ := HA.out.el HFR.out hXN (List.getElem?_eq_getElem hi1)
          obtain ⟨p2, c2, k2, hb', g0', g1', g2'⟩ := HA'.out.el HFR.out hXN' (List.getElem?_eq_getElem hi2)
          have K1 := Lib.hid k1
          have K2 := Lib.hid k2
          have HST := Lib.hid (eqS_step (step := step) (s := s') hi1 hi2)
          obtain ⟨a, ha⟩ : ∃ a, a = l[i] := ⟨_, rfl⟩
          obtain ⟨b2, hb2⟩ : ∃ a, a = l'[i] := ⟨_, rfl⟩
          have HMA : Hid (a ∈ l) := Lib.hid (by rw [ha]; exact List.getElem_mem _)
          have HMB : Hid (b2 ∈ l') := Lib.hid (by rw [hb2]; exact List.getElem_mem _)
          rw [← ha] at g0 g1 g2 K1 HST
          rw [← hb2] at g0' g1' g2' K2 HST
          clear k1 k2 ha hb2 hi1 hi2
          go_wp2_with fail
          have hf0 : Fr [] wr ((wr.alloc (.cells #[.int .i64 (kd a), .int .i64 (nm a), .slice p1 (ar a).length c1] 24)).alloc (.cells #[.int .i64 (kd b2), .int .i64 (nm b2), .slice p2 (ar b2).length c2] 24)) := ((Fr.refl _ _).alloc _).alloc _
          refine (HF.out a HMA.out b2 HMB.out s' _ _ _ (HI.out _ _ _ HS'.out hf0) (K1.out.keep0 hf0) (K2.out.keep0 hf0)).mono ?_
          rintro e w2 ⟨rfl, hf2, hs2⟩
          have HF2 := Lib.hid (HFR.out.trans ((hf0.nil X).trans hf2))
          have HS2 := Lib.hid hs2
          clear hf0 hf2 hs2 g0 g1 g2 g0' g1' g2'
          cases hgd : (step s' a b2).2 with
          | true =>
            have HB := Lib.hid hgd
            clear hgd
            go_wp2_with fail
            go_roundw
            case rel => exact ⟨i + 1, (step s' a b2).1, by go_num, by omega, HF2, HS2, Lib.hid (by rw [HQ.out, HST.out, HB.out]; rfl)⟩
            case measure => simp [RowKit.intOf]; omega
          | false =>
            have HB := Lib.hid hgd
            clear hgd
            go_wp2_with fail
            go_ret
            unfold EqP
            rw [HQ.out, HST.out, HB.out]
            exact ⟨rfl, HF2.out, HS2.out⟩
        · have hd2 : decide ((i : Int) < (n : Int)) = false := by simp; omega
          have hd3 : decide (i < n) = false := by simpa using hlt
          go_wp2_with fail
          go_ret
          unfold EqP
          rw [HQ.out, eqS_end (by have := HN2.out; omega)]
          exact ⟨rfl, HFR.out, HS'.out⟩
  · have hd : ((l.length : Int) != (l'.length : Int)) = true := by simp; omega
    have hr : eqF step s l l' = (s, false) := by unfold eqF; rw [if_neg hlen]
    have HR := Lib.hid hr
    obtain ⟨p, c, rfl⟩ := h.shape
    obtain ⟨p', c', rfl⟩ := h'.shape
    clear hr h h' hlen
    go_enter Try.func48, Try.ntmps48
    go_wp2_with fail
    go_ret
    unfold EqP
    rw [HR.out]
    exact ⟨rfl, Fr.refl _ _, HS.out⟩
end Go.Proofs.Ytkhbgdhgjbnhpaa
