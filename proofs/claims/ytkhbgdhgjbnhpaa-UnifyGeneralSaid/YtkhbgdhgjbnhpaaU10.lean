/-
  The walks of isStored and depthOf, and of the reference's Stored, Depth, Few, Small.
-/
import Derived.Test.YtkhbgdhgjbnhpaaU9
set_option linter.unusedVariables false
set_option linter.unusedSimpArgs false
set_option linter.unusedSectionVars false
namespace Go.Proofs.Ytkhbgdhgjbnhpaa
open Go.RowKit Go.Lib
open Un (kd nm ar size sizes depth depths few fews small)

theorem isstored_any (a : Ty) (cs : List Value) (w : World) (N : Nat → Prop) (h : TyV w N a cs) : Calls Try.prog 94 #[.agg cs.toArray] w (LookP (Un.stored a) w) := by
  obtain ⟨p, c, rfl, _⟩ := h.shape
  clear h
  obtain ⟨k, hk⟩ : ∃ k, k = kd a := ⟨_, rfl⟩
  have hs : Un.stored a = (decide (1 ≤ k) && decide (k ≤ 5)) := by unfold Un.stored; rw [hk]
  rw [hs, ← hk]
  clear hs hk
  by_cases h : k = 1 ∨ k = 2 ∨ k = 3 ∨ k = 4 ∨ k = 5
  · rcases h with rfl | rfl | rfl | rfl | rfl
    all_goals
      go_enter Try.func94, Try.ntmps94
      go_wp2_with fail
      go_ret
      exact ⟨rfl, (Fr.refl _ _).alloc _⟩
  · have e1 : (k == 1) = false := by simp; omega
    have e2 : (k == 2) = false := by simp; omega
    have e3 : (k == 3) = false := by simp; omega
    have e4 : (k == 4) = false := by simp; omega
    have e5 : (k == 5) = false := by simp; omega
    have hr : (decide (1 ≤ k) && decide (k ≤ 5)) = false := by simp; omega
    have HR := Lib.hid hr
    clear h hr
    go_enter Try.func94, Try.ntmps94
    go_wp2_with fail
    go_ret
    exact ⟨by rw [HR.out]; rfl, (Fr.refl _ _).alloc _⟩
theorem rstored_any (a : Ty) (cs : List Value) (w : World) (N : Nat → Prop) (h : TyV w N a cs) : Calls Try.prog 24 #[.agg cs.toArray] w (LookP (Un.stored a) w) := by
  obtain ⟨p, c, rfl, _⟩ := h.shape
  clear h
  obtain ⟨k, hk⟩ : ∃ k, k = kd a := ⟨_, rfl⟩
  have hs : Un.stored a = (decide (1 ≤ k) && decide (k ≤ 5)) := by unfold Un.stored; rw [hk]
  rw [hs, ← hk]
  clear hs hk
  by_cases h : 1 ≤ k
  · have e1 : decide (1 ≤ k) = true := by simpa using h
    have hr : (decide (1 ≤ k) && decide (k ≤ 5)) = decide (k ≤ 5) := by rw [e1]; rfl
    rw [hr]
    clear h hr
    go_enter Try.func24, Try.ntmps24
    go_wp2_with fail
    go_ret
    exact ⟨rfl, (Fr.refl _ _).alloc _⟩
  · have e1 : decide (1 ≤ k) = false := by simpa using h
    have hr : (decide (1 ≤ k) && decide (k ≤ 5)) = false := by rw [e1]; rfl
    rw [hr]
    clear h hr
    go_enter Try.func24, Try.ntmps24
    go_wp2_with fail
    go_ret
    exact ⟨rfl, (Fr.refl _ _).alloc _⟩
/-- an answer that is a number -/
def NumP (n : Int) (w : World) (e : Ending) (w' : World) : Prop := e = .returned (.int .i64 n) ∧ Fr [] w w'
theorem depths_take {l : List Ty} {i : Nat} (hi : i < l.length) : depths (l.take (i + 1)) = max (depths (l.take i)) (depth l[i]) := by
  rw [List.take_succ_eq_append_getElem hi]
  have key : ∀ (l : List Ty) (a : Ty), depths (l ++ [a]) = max (depths l) (depth a) := by
    intro l a
    induction l with
    | nil => simp only [List.nil_append, depths]; omega
    | cons b r ih => rw [List.cons_append, depths, ih, depths]; omega
  exact key _ _
theorem depths_small {l : List Ty} {i : Nat} : depths (l.take i) ≤ sizes l := Un.depths_le.2 fun a ha => Nat.le_trans (Un.depth_size a) (Un.size_mem (List.mem_of_mem_take ha))
theorem size_eq (t : Ty) : size t = sizes (ar t) + 1 := by cases t; rw [size]; rfl
theorem depth_eq (t : Ty) : depth t = depths (ar t) + 1 := by cases t; rw [depth]; rfl
set_option maxRecDepth 100000 in
set_option maxHeartbeats 1600000 in
theorem depthof_any (N : Nat → Prop) : ∀ (n : Nat) (a : Ty), size a ≤ n → n ≤ 100000 → ∀ (cs : List Value) (w : World), TyV w N a cs → Calls Try.prog 84 #[.agg cs.toArray] w (NumP (depth a) w) := by
  intro n
  induction n with
  | zero => intro t h; exact absurd (Un.size_pos t) (by omega)
  | succ n ih =>
    intro a hn hn1 cs w h
    have IH : Hid (∀ x ∈ ar a, ∀ (cs : List Value) (w : World), TyV w N x cs → Calls Try.prog 84 #[.agg cs.toArray] w (NumP (depth x) w)) := Lib.hid fun x hx => ih x (by have := size_ar hx; omega) (by omega)
    have HD := Lib.hid (depth_eq a)
    have hsm : sizes (ar a) ≤ 100000 := by have := size_eq a; omega
    obtain ⟨p, c, rfl, ha⟩ := h.shape
    have hlm : (ar a).length ≤ 100000 := Nat.le_trans (Un.sizes_len _) hsm
    have HA := Lib.hid ha
    obtain ⟨l, hl⟩ : ∃ l, l = ar a := ⟨_, rfl⟩
    rw [← hl] at IH HD hsm hlm HA ⊢
    clear h ha ih hn hn1 hl
    go_enter Try.func84, Try.ntmps84
    go_wp2_with fail
    obtain ⟨w1, hw1⟩ : ∃ w1, w1 = w.alloc (.cells #[.int .i64 (kd a), .int .i64 (nm a), .slice p l.length c] 24) := ⟨_, rfl⟩
    have HF0 : Hid (Fr [] w w1) := Lib.hid (by rw [hw1]; exact (Fr.refl _ _).alloc _)
    rw [← hw1]
    clear hw1
    go_loopw [3, 9] (fun d v wr => ∃ i : Nat, v = .int .i64 i ∧ i ≤ l.length ∧ d = .int .i64 (depths (l.take i)) ∧ Hid (Fr [] w wr)) (fun _ v _ => l.length - (RowKit.intOf v).toNat)
    case atStart => exact ⟨0, rfl, by omega, by rw [List.take_zero, depths]; rfl, HF0⟩
    case round =>
      obtain ⟨i, rfl, hi, rfl, HFR⟩ := hrel
      have hds : depths (l.take i) ≤ 100000 := Nat.le_trans depths_small hsm
      by_cases hlt : i < l.length
      · have hd2 : decide ((i : Int) < (l.length : Int)) = true := by simp; omega
        have hd3 : decide (i < l.length) = true := by simpa using hlt
        obtain ⟨b, o, rfl, hat⟩ : ∃ b o, p = some ⟨b, o, none⟩ ∧ TysAt w N l b o := by
          rcases HA.out.cases with ⟨rfl, _⟩ | ⟨_, b, o, cap, heq, _, _, hat⟩
          · simp at hlt
          · simp only [Value.slice.injEq] at heq
            exact ⟨b, o, heq.1, hat⟩
        obtain ⟨p1, c1, k1, hb, g0, g1, g2⟩ := hat.el HFR.out (by simp) (List.getElem?_eq_getElem hlt)
        have K1 := Lib.hid k1
        have HDT := Lib.hid (depths_take hlt)
        obtain ⟨x, hx⟩ : ∃ x, x = l[i] := ⟨_, rfl⟩
        have HMX : Hid (x ∈ l) := Lib.hid (by rw [hx]; exact List.getElem_mem _)
        rw [← hx] at g0 g1 g2 K1 HDT
        have hdx : depth x ≤ 100000 := Nat.le_trans (Nat.le_trans (Un.depth_size x) (Un.size_mem HMX.out)) hsm
        clear k1 hat hx
        go_wp2_with fail
        have hf0 : Fr [] wr (wr.alloc (.cells #[.int .i64 (kd x), .int .i64 (nm x), .slice p1 (ar x).length c1] 24)) := (Fr.refl _ _).alloc _
        refine (IH.out x HMX.out _ _ (K1.out.keep0 hf0)).mono ?_
        rintro e w2 ⟨rfl, hf2⟩
        have HF2 := Lib.hid (HFR.out.trans (hf0.trans hf2))
        clear hf0 hf2 g0 g1 g2
        go_wp2_with fail
        go_roundw
        case rel => exact ⟨i + 1, by go_num, by omega, by rw [HDT.out]; congr 1; omega, HF2⟩
        case measure => simp [RowKit.intOf]; omega
      · have hd2 : decide ((i : Int) < (l.length : Int)) = false := by simp; omega
        have hd3 : decide (i < l.length) = false := by simpa using hlt
        obtain rfl : i = l.length := by omega
        go_wp2_with fail
        go_ret
        refine ⟨?_, HFR.out⟩
        rw [HD.out]
        have e : depths (l.take l.length) = depths l := by rw [List.take_length]
        rw [← e]
        show Ending.returned (.int .i64 _) = _
        congr 2
        unfold wrap64
        omega

set_option maxRecDepth 100000 in
set_option maxHeartbeats 1600000 in
theorem rdepth_any (N : Nat → Prop) : ∀ (n : Nat) (a : Ty), size a ≤ n → n ≤ 100000 → ∀ (cs : List Value) (w : World), TyV w N a cs → Calls Try.prog 25 #[.agg cs.toArray] w (NumP (depth a) w) := by
  intro n
  induction n with
  | zero => intro t h; exact absurd (Un.size_pos t) (by omega)
  | succ n ih =>
    intro a hn hn1 cs w h
    have IH : Hid (∀ x ∈ ar a, ∀ (cs : List Value) (w : World), TyV w N x cs → Calls Try.prog 25 #[.agg cs.toArray] w (NumP (depth x) w)) := Lib.hid fun x hx => ih x (by have := size_ar hx; omega) (by omega)
    have HD := Lib.hid (depth_eq a)
    have hsm : sizes (ar a) ≤ 100000 := by have := size_eq a; omega
    obtain ⟨p, c, rfl, ha⟩ := h.shape
    have hlm : (ar a).length ≤ 100000 := Nat.le_trans (Un.sizes_len _) hsm
    have HA := Lib.hid ha
    obtain ⟨l, hl⟩ : ∃ l, l = ar a := ⟨_, rfl⟩
    rw [← hl] at IH HD hsm hlm HA ⊢
    clear h ha ih hn hn1 hl
    go_enter Try.func25, Try.ntmps25
    go_wp2_with fail
    obtain ⟨w1, hw1⟩ : ∃ w1, w1 = w.alloc (.cells #[.int .i64 (kd a), .int .i64 (nm a), .slice p l.length c] 24) := ⟨_, rfl⟩
    have HF0 : Hid (Fr [] w w1) := Lib.hid (by rw [hw1]; exact (Fr.refl _ _).alloc _)
    have HB0 : Hid (Blk w1 w.heap.size 24 #[.int .i64 (kd a), .int .i64 (nm a), .slice p l.length c]) := Lib.hid (by rw [hw1]; exact Blk.new _ _ _)
    rw [← hw1]
    clear hw1
    go_loopw [3, 4] (fun d v wr => ∃ i : Nat, v = .int .i64 i ∧ i ≤ l.length ∧ d = .int .i64 (depths (l.take i)) ∧ Hid (Fr [] w wr) ∧ Hid (Blk wr w.heap.size 24 #[.int .i64 (kd a), .int .i64 (nm a), .slice p l.length c])) (fun _ v _ => l.length - (RowKit.intOf v).toNat)
    case atStart => exact ⟨0, rfl, by omega, by rw [List.take_zero, depths]; rfl, HF0, HB0⟩
    case round =>
      obtain ⟨i, rfl, hi, rfl, HFR, HBR⟩ := hrel
      have hds : depths (l.take i) ≤ 100000 := Nat.le_trans depths_small hsm
      have hbl : w.heap.size < wr.heap.size := HBR.out.lt
      have b2 : wr.cell? ⟨w.heap.size, 2, none⟩ = some (.slice p l.length c) := HBR.out.cell 2
      by_cases hlt : i < l.length
      · have hd2 : decide ((i : Int) < (l.length : Int)) = true := by simp; omega
        have hd3 : decide (i < l.length) = true := by simpa using hlt
        obtain ⟨b, o, rfl, hat⟩ : ∃ b o, p = some ⟨b, o, none⟩ ∧ TysAt w N l b o := by
          rcases HA.out.cases with ⟨rfl, _⟩ | ⟨_, b, o, cap, heq, _, _, hat⟩
          · simp at hlt
          · simp only [Value.slice.injEq] at heq
            exact ⟨b, o, heq.1, hat⟩
        obtain ⟨p1, c1, k1, hb, g0, g1, g2⟩ := hat.el HFR.out (by simp) (List.getElem?_eq_getElem hlt)
        have K1 := Lib.hid k1
        have HDT := Lib.hid (depths_take hlt)
        obtain ⟨x, hx⟩ : ∃ x, x = l[i] := ⟨_, rfl⟩
        have HMX : Hid (x ∈ l) := Lib.hid (by rw [hx]; exact List.getElem_mem _)
        rw [← hx] at g0 g1 g2 K1 HDT
        have hdx : depth x ≤ 100000 := Nat.le_trans (Nat.le_trans (Un.depth_size x) (Un.size_mem HMX.out)) hsm
        clear k1 hat hx
        go_wp2_with fail
        refine (IH.out x HMX.out _ _ K1.out).mono ?_
        rintro e w2 ⟨rfl, hf2⟩
        have HF2 := Lib.hid (HFR.out.trans hf2)
        have HB2 := Lib.hid (HBR.out.keep hf2 (by simp))
        clear hf2 g0 g1 g2 b2 hbl
        go_wp2_with fail
        go_roundw
        case rel => exact ⟨i + 1, by go_num, by omega, by rw [HDT.out]; congr 1; omega, HF2, HB2⟩
        case measure => simp [RowKit.intOf]; omega
      · have hd2 : decide ((i : Int) < (l.length : Int)) = false := by simp; omega
        have hd3 : decide (i < l.length) = false := by simpa using hlt
        obtain rfl : i = l.length := by omega
        go_wp2_with fail
        go_ret
        refine ⟨?_, HFR.out⟩
        rw [HD.out]
        have e : depths (l.take l.length) = depths l := by rw [List.take_length]
        rw [← e]
        show Ending.returned (.int .i64 _) = _
        congr 2
        all_goals first | omega | (unfold wrap64; omega)
end Go.Proofs.Ytkhbgdhgjbnhpaa
