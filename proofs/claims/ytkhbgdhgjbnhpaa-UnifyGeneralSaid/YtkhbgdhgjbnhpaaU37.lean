/-
  The walk of isWellFormed.
-/
import Derived.Test.YtkhbgdhgjbnhpaaU35
set_option linter.unusedVariables false
set_option linter.unusedSimpArgs false
set_option linter.unusedSectionVars false
namespace Go.Proofs.Ytkhbgdhgjbnhpaa
open Go.RowKit Go.Lib
open Un (kd nm ar size sizes depth unsolved element over vin)

namespace Un
/-- whether a substitution is well-formed, where depthsOf is known -/
def wf (s : List Ty) : Option Bool := if (s.all fun t => unsolved t || element s.length t) = true then (depthsOf s).map fun r => r.2 && !(r.1.any fun n => decide (8 < n)) else some false
theorem vin_of_ok {n : Int} {t : Ty} (h : (unsolved t || element n t) = true) : vin n t = true := by
  rw [Bool.or_eq_true] at h
  rcases h with h | h
  · exact vin_of_unsolved n t h
  · unfold element at h
    rw [Bool.and_eq_true] at h
    exact vin_of_over n t h.2
end Un
theorem IntsB.intsV {w : World} {g : Nat} {l : List Int} (h : IntsB w g l) (hl : l.length ≤ 1000) : IntsV w (fun _ => True) l (.slice (some ⟨g, 0, none⟩) l.length l.length) := by
  unfold IntsV
  rcases Nat.eq_zero_or_pos l.length with h0 | h0
  · have := List.eq_nil_of_length_eq_zero h0
    subst this
    exact InN.slNil _ _
  · rw [InN]
    refine ⟨_, _, rfl, .inr ⟨g, 0, l.length, l.map (Value.int .i64), rfl, h0, Nat.le_refl _, by unfold maxLen; omega, trivial, h.lt, by simp, fun j hj => ?_, inn_ints l⟩, InN.mk_nil _ _⟩
    rw [Nat.zero_add]
    rw [show w.cell? ⟨g, j, none⟩ = ((l.map (Value.int .i64)).toArray)[j]? from Blk.cell h j]
    simp
set_option maxRecDepth 100000 in
set_option maxHeartbeats 1600000 in
theorem wf_any (N : Nat → Prop) (s : List Ty) (v : Value) (w : World) (hv : TysV w N s v) (hl : s.length ≤ 1000) (hs : ∀ t ∈ s, size t ≤ 90000) (b : Bool) (hb : Un.wf s = some b) :
    Calls Try.prog 39 #[v] w (LookP b w) := by
  have HV := Lib.hid hv
  have HS := Lib.hid hs
  have HB := Lib.hid hb
  obtain ⟨ps, cp, rfl⟩ := hv.shape
  clear hv hs hb
  go_enter Try.func39, Try.ntmps39
  go_wp2_with fail
  go_loopw [9] (fun x wr => ∃ i : Nat, x = .int .i64 i ∧ i ≤ s.length ∧ Hid (Fr [] w wr) ∧ Hid (∀ j, j < i → ∀ t, s[j]? = some t → (unsolved t || element s.length t) = true)) (fun x _ => s.length - (RowKit.intOf x).toNat)
  case atStart => exact ⟨0, rfl, Nat.zero_le _, Lib.hid (Fr.refl _ _), Lib.hid (fun j hj => by omega)⟩
  case round =>
    obtain ⟨i, rfl, hi, HF, HG⟩ := hrel
    by_cases hlt : i < s.length
    · have hd2 : decide ((i : Int) < (s.length : Int)) = true := by simp; omega
      have hd3 : decide (i < s.length) = true := by simpa using hlt
      obtain ⟨bb, o, rfl, hat⟩ : ∃ bb o, ps = some ⟨bb, o, none⟩ ∧ TysAt w N s bb o := by
        rcases HV.out.cases with ⟨rfl, _⟩ | ⟨_, bb, o, cap, heq, _, _, hat⟩
        · simp at hlt
        · simp only [Value.slice.injEq] at heq
          exact ⟨bb, o, heq.1, hat⟩
      obtain ⟨p1, c1, k1, hb', g0, g1, g2⟩ := hat.el HF.out (by simp) (List.getElem?_eq_getElem hlt)
      obtain ⟨t, ht⟩ : ∃ t, t = s[i] := ⟨_, rfl⟩
      have HST : Hid (s[i]? = some t) := Lib.hid (by rw [ht]; exact List.getElem?_eq_getElem hlt)
      rw [← ht] at g0 g1 g2 k1
      have K1 := Lib.hid k1
      clear k1 hat ht
      go_wp2_with fail
      obtain ⟨w1, hw1⟩ : ∃ w1, w1 = wr.alloc (.cells #[.int .i64 (kd t), .int .i64 (nm t), .slice p1 (ar t).length c1] 24) := ⟨_, rfl⟩
      have HF0 : Hid (Fr [] wr w1) := Lib.hid (by rw [hw1]; exact (Fr.refl _ _).alloc _)
      have HB0 : Hid (Blk w1 wr.heap.size 24 #[.int .i64 (kd t), .int .i64 (nm t), .slice p1 (ar t).length c1]) := Lib.hid (by rw [hw1]; exact Blk.new _ _ _)
      rw [← hw1]
      clear hw1 g0 g1 g2
      refine (isunsolved_any t _ w1 N (K1.out.keep0 HF0.out)).mono ?_
      rintro e w2 ⟨rfl, hf2⟩
      have HF2 := Lib.hid (HF0.out.trans hf2)
      have HB2 := Lib.hid (HB0.out.keep hf2 (by simp))
      clear hf2
      cases e1 : unsolved t with
      | true =>
        have HE := Lib.hid e1
        clear e1
        go_wp2_with fail
        go_roundw
        case rel => exact ⟨i + 1, by go_num, by omega, Lib.hid (HF.out.trans HF2.out), Lib.hid (fun j hj u hu => by
          by_cases hj' : j < i
          · exact HG.out j hj' u hu
          · obtain rfl : j = i := by omega
            rw [HST.out] at hu
            cases hu
            rw [HE.out]; rfl)⟩
        case measure => simp [RowKit.intOf]; omega
      | false =>
        have HE := Lib.hid e1
        have c0 : w2.cell? ⟨wr.heap.size, 0, none⟩ = some (.int .i64 (kd t)) := HB2.out.cell 0
        have c1' : w2.cell? ⟨wr.heap.size, 1, none⟩ = some (.int .i64 (nm t)) := HB2.out.cell 1
        have c2 : w2.cell? ⟨wr.heap.size, 2, none⟩ = some (.slice p1 (ar t).length c1) := HB2.out.cell 2
        have cl : wr.heap.size < w2.heap.size := HB2.out.lt
        clear e1
        go_wp2_with fail
        refine (element_any N s (by omega) (some ⟨bb, o, none⟩) cp t _ w2 (K1.out.keep0 HF2.out)).mono ?_
        rintro e w3 ⟨rfl, hf3⟩
        have HF3 := Lib.hid (HF.out.trans (HF2.out.trans hf3))
        clear hf3 c0 c1' c2 cl
        cases e2 : element s.length t with
        | true =>
          have HE2 := Lib.hid e2
          clear e2
          go_wp2_with fail
          go_roundw
          case rel => exact ⟨i + 1, by go_num, by omega, HF3, Lib.hid (fun j hj u hu => by
            by_cases hj' : j < i
            · exact HG.out j hj' u hu
            · obtain rfl : j = i := by omega
              rw [HST.out] at hu
              cases hu
              rw [HE2.out]; simp)⟩
          case measure => simp [RowKit.intOf]; omega
        | false =>
          have hbf : b = false := by
            have h1 := HB.out
            unfold Un.wf at h1
            rw [if_neg (by
              rw [List.all_eq_true]
              intro h
              have := h t (List.mem_of_getElem? HST.out)
              rw [HE.out, e2] at this
              cases this)] at h1
            exact (Option.some.inj h1).symm
          clear e2
          subst hbf
          go_wp2_with fail
          go_ret
          exact ⟨rfl, HF3.out⟩
    · have hd2 : decide ((i : Int) < (s.length : Int)) = false := by simp; omega
      have hd3 : decide (i < s.length) = false := by simpa using hlt
      have hall : ∀ t ∈ s, (unsolved t || element s.length t) = true := fun t ht => by
        obtain ⟨j, hj, rfl⟩ := List.getElem_of_mem ht
        exact HG.out j (by omega) _ (List.getElem?_eq_getElem hj)
      obtain ⟨r, hr, hbr⟩ : ∃ r, Un.depthsOf s = some r ∧ b = (r.2 && !(r.1.any fun n => decide (8 < n))) := by
        have h1 := HB.out
        unfold Un.wf at h1
        rw [if_pos (by rw [List.all_eq_true]; exact hall)] at h1
        obtain ⟨r, h2, h3⟩ := Option.map_eq_some_iff.1 h1
        exact ⟨r, h2, h3.symm⟩
      have HR := Lib.hid hr
      have HALL := Lib.hid hall
      have HBR := Lib.hid hbr
      clear hall hr hbr HG
      go_wp2_with fail
      refine (depthsof_any N s _ wr (HV.out.keep0 HF.out) hl HS.out (fun t ht => Un.vin_of_ok (HALL.out t ht)) r HR.out).mono ?_
      rintro e w2 ⟨g, rfl, hf2, hlen, hg, hI⟩
      have HF2 := Lib.hid (HF.out.trans hf2)
      have hI2 := hI.intsV (by omega)
      rw [hlen] at hI2
      have HI := Lib.hid hI2
      have HG := Lib.hid hg
      clear hf2 hI hI2 hlen hg
      obtain ⟨r1, r2⟩ := r
      cases r2 with
      | false =>
        have HE : Hid (b = false) := Lib.hid (by rw [HBR.out]; rfl)
        go_wp2_with fail
        go_ret
        exact ⟨by rw [HE.out]; rfl, HF2.out⟩
      | true =>
        have HE : Hid (b = !(r1.any fun n => decide (8 < n))) := Lib.hid (by rw [HBR.out]; rfl)
        go_wp2_with fail
        refine (containsdeep_any r1 _ w2 _ HI.out).mono ?_
        rintro e w3 ⟨rfl, hf3⟩
        have HF3 := Lib.hid (HF2.out.trans hf3)
        clear hf3
        go_wp2_with fail
        go_ret
        exact ⟨by rw [HE.out]; simp, HF3.out⟩
end Go.Proofs.Ytkhbgdhgjbnhpaa
