/-
  The walks of accepts and Valid.
-/
import Derived.Test.YtkhbgdhgjbnhpaaU12
set_option linter.unusedVariables false
set_option linter.unusedSimpArgs false
set_option linter.unusedSectionVars false
namespace Go.Proofs.Ytkhbgdhgjbnhpaa
open Go.RowKit Go.Lib
open Un (kd nm ar size sizes acc accs fits valid)

set_option maxRecDepth 100000 in
set_option maxHeartbeats 3200000 in
theorem accepts_any (ds : List Int) (p : Int) (N N' : Nat → Prop) (b : Nat) (dv : Value) : ∀ (m : Nat) (t : Ty), size t ≤ m → ∀ (n : Int), 0 ≤ n → n ≤ 8 → AccAt ds p n N N' b dv t := by
  intro m
  induction m with
  | zero => intro t h; exact absurd (Un.size_pos t) (by omega)
  | succ m ih =>
    intro t hm n hn hn8 cs w hsc h
    have IH : Hid (∀ a ∈ ar t, 0 ≤ n - 1 → AccAt ds p (n - 1) N N' b dv a) := Lib.hid fun a ha h1 => ih a (by have := size_ar ha; omega) (n - 1) h1 (by omega)
    have HSC := Lib.hid hsc
    have HT := Lib.hid h
    obtain ⟨pt, ct, rfl, hat⟩ := h.shape
    have hlm := hat.len
    unfold maxLen at hlm
    obtain ⟨k, i, al⟩ := t
    simp only [kd, nm, ar] at IH HT hat hlm ⊢
    obtain ⟨w1, hw1⟩ : ∃ w1, w1 = w.alloc (.cells #[.int .i64 k, .int .i64 i, .slice pt al.length ct] 24) := ⟨_, rfl⟩
    have HF0 : Hid (Fr [] w w1) := Lib.hid (by rw [hw1]; exact (Fr.refl _ _).alloc _)
    have HB0 : Hid (Blk w1 w.heap.size 24 #[.int .i64 k, .int .i64 i, .slice pt al.length ct]) := Lib.hid (by rw [hw1]; exact Blk.new _ _ _)
    obtain ⟨A, hAcc⟩ : ∃ A, A = acc ds p n (.mk k i al) := ⟨_, rfl⟩
    have HACC := Lib.hid hAcc
    rw [← hAcc]
    have s0 : w.cell? ⟨b, 0, none⟩ = some dv := hsc.blk.cell 0
    have s1 : w.cell? ⟨b, 1, none⟩ = some (.int .i64 p) := hsc.blk.cell 1
    have sl : b < w.heap.size := hsc.blk.lt
    clear hAcc hat h ih hm
    by_cases hn0 : n = 0
    · subst hn0
      have hA : A = false := by rw [HACC.out, acc, if_pos rfl]
      subst hA
      clear hsc
      go_enter Try.func57, Try.ntmps57
      go_wp2_with fail
      go_ret
      exact ⟨rfl, by rw [← hw1]; exact HF0.out⟩
    have en : (n == 0) = false := by simp [hn0]
    have HN0 := Lib.hid hn0
    by_cases hleaf : k = 1 ∨ k = 6
    · have hA : A = (decide (i = 0) && al.isEmpty) := by
        rw [HACC.out, acc, if_neg hn0, if_pos hleaf]
      have hfin : ∀ e1 e2 : Bool, (i == 0) = e1 → ((al.length : Int) == 0) = e2 → A = (e1 && e2) := by
        intro e1 e2 h1 h2
        rw [hA, ← h1, ← h2]
        congr 1
        rw [Bool.eq_iff_iff]
        simp
      have HFIN := Lib.hid hfin
      clear hA hfin hn0 hsc
      cases e1 : (i == 0) with
      | false =>
        have HE : Hid (A = false) := Lib.hid (by rw [HFIN.out _ _ e1 rfl]; rfl)
        rcases hleaf with rfl | rfl
        all_goals
          go_enter Try.func57, Try.ntmps57
          go_wp2_with fail
          go_ret
          exact ⟨by rw [HE.out]; rfl, by rw [← hw1]; exact HF0.out⟩
      | true =>
        have HE : Hid (A = ((al.length : Int) == 0)) := Lib.hid (by rw [HFIN.out _ _ e1 rfl]; rfl)
        rcases hleaf with rfl | rfl
        all_goals
          go_enter Try.func57, Try.ntmps57
          go_wp2_with fail
          go_ret
          exact ⟨by rw [HE.out]; rfl, by rw [← hw1]; exact HF0.out⟩
    by_cases h5 : k = 5
    · subst h5
      have hA : A = ((decide (0 ≤ i) && decide (i < p)) && al.isEmpty) := by
        rw [HACC.out, acc, if_neg hn0, if_neg hleaf, if_pos rfl]
      have hz : al.isEmpty = ((al.length : Int) == 0) := by rw [Bool.eq_iff_iff]; simp
      rw [hz] at hA
      clear hn0 hleaf hsc hz
      cases e1 : decide (0 ≤ i) with
      | false =>
        have HE : Hid (A = false) := Lib.hid (by rw [hA, e1]; rfl)
        clear hA
        go_enter Try.func57, Try.ntmps57
        go_wp2_with fail
        go_quiet (fail)
        go_wp2_with fail
        go_ret
        exact ⟨by rw [HE.out]; rfl, by rw [← hw1]; first | exact HF0.out.drewN _ | exact HF0.out.drew | exact HF0.out⟩
      | true =>
        cases e2 : decide (i < p) with
        | false =>
          have HE : Hid (A = false) := Lib.hid (by rw [hA, e1, e2]; rfl)
          clear hA
          go_enter Try.func57, Try.ntmps57
          go_wp2_with fail
          go_quiet (fail)
          go_wp2_with fail
          go_ret
          exact ⟨by rw [HE.out]; rfl, by rw [← hw1]; first | exact HF0.out.drewN _ | exact HF0.out.drew | exact HF0.out⟩
        | true =>
          have HE : Hid (A = ((al.length : Int) == 0)) := Lib.hid (by rw [hA, e1, e2]; rfl)
          clear hA
          go_enter Try.func57, Try.ntmps57
          go_wp2_with fail
          go_quiet (fail)
          go_wp2_with fail
          go_ret
          exact ⟨by rw [HE.out]; rfl, by rw [← hw1]; first | exact HF0.out.drewN _ | exact HF0.out.drew | exact HF0.out⟩
    have e5 : (k == 5) = false := by simp [h5]
    by_cases h2 : k = 2
    · subst h2
      have hA : A = ((decide (0 ≤ i) && decide (i < ds.length)) && (decide ((al.length : Int) = ds.getD i.toNat 0) && accs ds p 2 n al)) := by
        rw [HACC.out, acc, if_neg hn0, if_neg hleaf, if_neg h5, if_pos rfl]
      clear hleaf h5
      obtain ⟨pd, cd, rfl⟩ := hsc.datas.shape
      have hdm : ds.length ≤ 9223372036854775807 := by have := InN.slLen hsc.datas; unfold maxLen at this; omega
      cases e1 : decide (0 ≤ i) with
      | false =>
        have HE : Hid (A = false) := Lib.hid (by rw [hA, e1]; rfl)
        clear hA hsc hn0
        go_enter Try.func57, Try.ntmps57
        go_wp2_with fail
        go_quiet (fail)
        go_wp2_with fail
        go_ret
        exact ⟨by rw [HE.out]; rfl, by rw [← hw1]; first | exact HF0.out.drewN _ | exact HF0.out.drew | exact HF0.out⟩
      | true =>
        cases e2 : decide (i < (ds.length : Int)) with
        | false =>
          have HE : Hid (A = false) := Lib.hid (by rw [hA, e1, e2]; rfl)
          clear hA hsc hn0
          go_enter Try.func57, Try.ntmps57
          go_wp2_with fail
          go_quiet (fail)
          go_wp2_with fail
          go_ret
          exact ⟨by rw [HE.out]; rfl, by rw [← hw1]; first | exact HF0.out.drewN _ | exact HF0.out.drew | exact HF0.out⟩
        | true =>
          obtain ⟨j, rfl⟩ : ∃ j : Nat, i = j := ⟨i.toNat, by simp at e1; omega⟩
          have hj : j < ds.length := by simp at e2; omega
          obtain ⟨bd, od, capd, hpd, g2, gl⟩ := hsc.datas.el hj
          simp only [Value.slice.injEq] at hpd
          obtain ⟨rfl, _, rfl⟩ := hpd
          have hget : ds.getD (j : Int).toNat 0 = ds[j] := by simp [List.getD_eq_getElem?_getD, List.getElem?_eq_getElem hj]
          have HE : Hid (A = (decide ((al.length : Int) = ds[j]) && accs ds p 2 n al)) := Lib.hid (by rw [hA, e1, e2, hget]; rfl)
          have e3 : decide (j < ds.length) = true := by simpa using hj
          obtain ⟨dn, hdn⟩ : ∃ dn, dn = ds[j] := ⟨_, rfl⟩
          rw [← hdn] at g2 HE
          have HA1 : Hid (0 < n) := Lib.hid (by omega)
          clear hA hsc hget hdn hn0
          go_enter Try.func57, Try.ntmps57
          go_wp2_with fail
          rw [← hw1]
          clear hw1
          have c0 : w1.cell? ⟨w.heap.size, 0, none⟩ = some (.int .i64 2) := HB0.out.cell 0
          have c1 : w1.cell? ⟨w.heap.size, 1, none⟩ = some (.int .i64 j) := HB0.out.cell 1
          have c2 : w1.cell? ⟨w.heap.size, 2, none⟩ = some (.slice pt al.length ct) := HB0.out.cell 2
          have cl : w.heap.size < w1.heap.size := HB0.out.lt
          have d0 : w1.cell? ⟨b, 0, none⟩ = some (.slice (some ⟨bd, od, none⟩) ds.length cd) := (HF0.out.cell sl (by simp) 0).trans s0
          have dl : b < w1.heap.size := Nat.lt_of_lt_of_le sl HF0.out.size
          have x2 : w1.cell? ⟨bd, od + j * 5 + 2, none⟩ = some (.int .i64 dn) := (HF0.out.cell gl (by simp) _).trans g2
          have xl : bd < w1.heap.size := Nat.lt_of_lt_of_le gl HF0.out.size
          clear s0 s1 sl g2 gl
          go_still_tail 26, (by kernel_rfl)
          change wpList _ _ _ _ _ w1.drew
          have HF1 : Hid (Fr [] w w1.drew) := Lib.hid HF0.out.drew
          clear c0 c1 c2 cl d0 dl x2 xl HB0 HF0
          generalize w1.drew = w2 at HF1
          go_wp2_with fail
          refine (acceptsargs_any ds p n dn N N' b _ (.mk 2 j al) _ w2 HA1.out hn8 (HSC.out.keep HF1.out) (HT.out.keep0 HF1.out) (fun a ha => IH.out a ha (by have := HA1.out; omega))).mono ?_
          rintro e w3 ⟨rfl, hf3⟩
          have HF3 := Lib.hid (HF1.out.trans hf3)
          clear hf3
          go_wp2_with fail
          go_ret
          exact ⟨by rw [HE.out]; rfl, HF3.out⟩
    have e2 : (k == 2) = false := by simp [h2]
    by_cases h3 : k = 3 ∨ k = 4 ∨ k = 7 ∨ k = 8
    · have hA : A = (decide (i = 0) && (decide ((al.length : Int) = 1) && accs ds p k n al)) := by
        rw [HACC.out, acc, if_neg hn0, if_neg hleaf, if_neg h5, if_neg h2, if_pos h3]
      have HA1 : Hid (0 < n) := Lib.hid (by omega)
      by_cases hi : i = 0
      · subst hi
        have HE : Hid (A = (decide ((al.length : Int) = 1) && accs ds p k n al)) := Lib.hid (by rw [hA]; simp)
        have HC := Lib.hid (acceptsargs_any ds p n 1 N N' b dv (.mk k 0 al) _ w1 HA1.out hn8 (HSC.out.keep HF0.out) (HT.out.keep0 HF0.out) (fun a ha => IH.out a ha (by have := HA1.out; omega)))
        clear hA hleaf h5 h2 hn0 hsc e5 e2
        simp only [kd, nm, ar] at HC
        rcases h3 with rfl | rfl | rfl | rfl
        all_goals
          go_enter Try.func57, Try.ntmps57
          go_wp2_with fail
          rw [← hw1]
          clear hw1
          refine HC.out.mono ?_
          rintro e w2 ⟨rfl, hf2⟩
          have HF2 := Lib.hid (HF0.out.trans hf2)
          clear hf2
          go_wp2_with fail
          go_ret
          exact ⟨by rw [HE.out]; rfl, HF2.out⟩
      · have ei : (i == 0) = false := by simp [hi]
        have HE : Hid (A = false) := Lib.hid (by rw [hA]; simp [hi])
        clear hA hleaf h5 h2 hn0 hsc e5 e2 hi
        rcases h3 with rfl | rfl | rfl | rfl
        all_goals
          go_enter Try.func57, Try.ntmps57
          go_wp2_with fail
          go_ret
          exact ⟨by rw [HE.out]; rfl, by rw [← hw1]; exact HF0.out⟩
    · have HE : Hid (A = false) := Lib.hid (by rw [HACC.out, acc, if_neg hn0, if_neg hleaf, if_neg h5, if_neg h2, if_neg h3])
      have e1 : (k == 1) = false := by simp; omega
      have e3 : (k == 3) = false := by simp; omega
      have e4 : (k == 4) = false := by simp; omega
      have e6 : (k == 6) = false := by simp; omega
      have e7 : (k == 7) = false := by simp; omega
      have e8 : (k == 8) = false := by simp; omega
      clear hleaf h5 h2 h3 hn0 hsc
      go_enter Try.func57, Try.ntmps57
      go_wp2_with fail
      go_ret
      exact ⟨by rw [HE.out]; rfl, by rw [← hw1]; exact HF0.out⟩
end Go.Proofs.Ytkhbgdhgjbnhpaa
