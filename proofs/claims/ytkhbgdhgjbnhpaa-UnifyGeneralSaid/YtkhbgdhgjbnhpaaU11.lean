/-
  The walks of the reference's Few and Small.
-/
import Derived.Test.YtkhbgdhgjbnhpaaU10
set_option linter.unusedVariables false
set_option linter.unusedSimpArgs false
set_option linter.unusedSectionVars false
namespace Go.Proofs.Ytkhbgdhgjbnhpaa
open Go.RowKit Go.Lib
open Un (kd nm ar size sizes few fews small)

theorem few_eq (m : Int) (t : Ty) : few m t = fews m 1 (ar t) := by cases t; rw [few]; rfl
theorem fews_end {m n : Int} {l : List Ty} {i : Nat} (h : l.length ≤ i) : fews m n (l.drop i) = n := by rw [List.drop_eq_nil_of_le h, fews]
theorem fews_stop {m n : Int} {l : List Ty} (h : m < n) : fews m n l = n := by
  cases l with
  | nil => rw [fews]
  | cons a r => rw [fews, if_neg (by omega)]
theorem fews_go {m n : Int} {l : List Ty} {i : Nat} (hi : i < l.length) (h : n ≤ m) : fews m n (l.drop i) = fews m (n + few (m - n) l[i]) (l.drop (i + 1)) := by
  rw [List.drop_eq_getElem_cons hi, fews, if_pos h]
set_option maxRecDepth 100000 in
set_option maxHeartbeats 1600000 in
theorem few_any (N : Nat → Prop) : ∀ (k : Nat) (a : Ty), size a ≤ k → ∀ (m : Int), 0 ≤ m → m ≤ 1000 → ∀ (cs : List Value) (w : World), TyV w N a cs → Calls Try.prog 35 #[.agg cs.toArray, .int .i64 m] w (NumP (few m a) w) := by
  intro k
  induction k with
  | zero => intro t h; exact absurd (Un.size_pos t) (by omega)
  | succ k ih =>
    intro a hn m hm0 hm1 cs w h
    have IH : Hid (∀ x ∈ ar a, ∀ (m : Int), 0 ≤ m → m ≤ 1000 → ∀ (cs : List Value) (w : World), TyV w N x cs → Calls Try.prog 35 #[.agg cs.toArray, .int .i64 m] w (NumP (few m x) w)) := Lib.hid fun x hx => ih x (by have := size_ar hx; omega)
    have HD := Lib.hid (few_eq m a)
    obtain ⟨p, c, rfl, ha⟩ := h.shape
    have hlm := ha.len
    unfold maxLen at hlm
    have HA := Lib.hid ha
    obtain ⟨l, hl⟩ : ∃ l, l = ar a := ⟨_, rfl⟩
    rw [← hl] at IH HD hlm HA ⊢
    clear h ha ih hn hl
    go_enter Try.func35, Try.ntmps35
    go_wp2_with fail
    obtain ⟨w1, hw1⟩ : ∃ w1, w1 = w.alloc (.cells #[.int .i64 (kd a), .int .i64 (nm a), .slice p l.length c] 24) := ⟨_, rfl⟩
    have HF0 : Hid (Fr [] w w1) := Lib.hid (by rw [hw1]; exact (Fr.refl _ _).alloc _)
    have HB0 : Hid (Blk w1 w.heap.size 24 #[.int .i64 (kd a), .int .i64 (nm a), .slice p l.length c]) := Lib.hid (by rw [hw1]; exact Blk.new _ _ _)
    rw [← hw1]
    clear hw1
    go_loopw [5, 6] (fun d v wr => ∃ (i : Nat) (n : Int), v = .int .i64 i ∧ i ≤ l.length ∧ d = .int .i64 n ∧ 1 ≤ n ∧ n ≤ m + 1 ∧ Hid (few m a = fews m n (l.drop i)) ∧ Hid (Fr [] w wr) ∧ Hid (Blk wr w.heap.size 24 #[.int .i64 (kd a), .int .i64 (nm a), .slice p l.length c])) (fun _ v _ => l.length - (RowKit.intOf v).toNat)
    case atStart => exact ⟨0, 1, rfl, by omega, rfl, by omega, by omega, HD, HF0, HB0⟩
    case round =>
      obtain ⟨i, n, rfl, hi, rfl, hn0, hn1, HQ, HFR, HBR⟩ := hrel
      have hbl : w.heap.size < wr.heap.size := HBR.out.lt
      have b2 : wr.cell? ⟨w.heap.size, 2, none⟩ = some (.slice p l.length c) := HBR.out.cell 2
      by_cases hlt : i < l.length
      · have hd2 : decide ((i : Int) < (l.length : Int)) = true := by simp; omega
        have hd3 : decide (i < l.length) = true := by simpa using hlt
        by_cases hle : n ≤ m
        · have hd4 : decide (n ≤ m) = true := by simpa using hle
          obtain ⟨b, o, rfl, hat⟩ : ∃ b o, p = some ⟨b, o, none⟩ ∧ TysAt w N l b o := by
            rcases HA.out.cases with ⟨rfl, _⟩ | ⟨_, b, o, cap, heq, _, _, hat⟩
            · simp at hlt
            · simp only [Value.slice.injEq] at heq
              exact ⟨b, o, heq.1, hat⟩
          obtain ⟨p1, c1, k1, hb, g0, g1, g2⟩ := hat.el HFR.out (by simp) (List.getElem?_eq_getElem hlt)
          have K1 := Lib.hid k1
          have HGO := Lib.hid (fews_go (m := m) hlt hle)
          obtain ⟨x, hx⟩ : ∃ x, x = l[i] := ⟨_, rfl⟩
          have HMX : Hid (x ∈ l) := Lib.hid (by rw [hx]; exact List.getElem_mem _)
          rw [← hx] at g0 g1 g2 K1 HGO
          have hfb := Un.few_bounds x (m - n) (by omega)
          have hf1 : 1 ≤ few (m - n) x := hfb.1
          have hf2 : few (m - n) x ≤ m - n + 1 := hfb.2.1
          obtain ⟨y, hy⟩ : ∃ y, y = few (m - n) x := ⟨_, rfl⟩
          rw [← hy] at hf1 hf2 HGO
          have HY := Lib.hid hy
          clear k1 hat hx hfb hy
          go_wp2_with fail
          refine (IH.out x HMX.out _ (by omega) (by omega) _ _ K1.out).mono ?_
          rintro e w2 ⟨rfl, hfr⟩
          rw [← HY.out]
          have HF2 := Lib.hid (HFR.out.trans hfr)
          have HB2 := Lib.hid (HBR.out.keep hfr (by simp))
          clear hfr g0 g1 g2 b2 hbl
          go_wp2_with fail
          go_roundw
          case rel => exact ⟨i + 1, n + y, by go_num, by omega, rfl, by omega, by omega, Lib.hid (by rw [HQ.out, HGO.out]), HF2, HB2⟩
          case measure => simp [RowKit.intOf]; omega
        · have hd4 : decide (n ≤ m) = false := by simpa using hle
          have HS := Lib.hid (fews_stop (m := m) (n := n) (l := l.drop i) (by omega))
          go_wp2_with fail
          go_ret
          exact ⟨by rw [HQ.out, HS.out]; rfl, HFR.out⟩
      · have hd2 : decide ((i : Int) < (l.length : Int)) = false := by simp; omega
        have hd3 : decide (i < l.length) = false := by simpa using hlt
        have HS := Lib.hid (fews_end (m := m) (n := n) (l := l) (i := i) (by omega))
        go_wp2_with fail
        go_ret
        exact ⟨by rw [HQ.out, HS.out]; rfl, HFR.out⟩
set_option maxRecDepth 100000 in
set_option maxHeartbeats 1600000 in
theorem small_any (N : Nat → Prop) (l : List Ty) (v : Value) (w : World) (h : TysV w N l v) : Calls Try.prog 9 #[v] w (LookP (small l) w) := by
  have hlm := h.len
  unfold maxLen at hlm
  rcases h.cases with ⟨rfl, p, c, rfl⟩ | ⟨hn, b, o, cap, rfl, hc, hm, hat⟩
  · clear h
    simp only [List.length_nil] at hlm ⊢
    go_enter Try.func9, Try.ntmps9
    go_wp2_with fail
    go_loopw [3] (fun v wr => v = .int .i64 0 ∧ wr = w) (fun v _ => 0)
    case atStart => exact ⟨rfl, rfl⟩
    case round =>
      obtain ⟨rfl, rfl⟩ := hrel
      go_wp2_with fail
      go_ret
      exact ⟨rfl, Fr.refl _ _⟩
  · have HA := Lib.hid hat
    unfold maxLen at hm
    clear hat h
    go_enter Try.func9, Try.ntmps9
    go_wp2_with fail
    go_loopw [3] (fun v wr => ∃ i : Nat, v = .int .i64 i ∧ i ≤ l.length ∧ Hid (Fr [] w wr) ∧ Hid (∀ j, j < i → ∀ t, l[j]? = some t → few 30 t ≤ 30)) (fun v _ => l.length - (RowKit.intOf v).toNat)
    case atStart => exact ⟨0, rfl, by omega, Lib.hid (Fr.refl _ _), Lib.hid (fun j hj => by omega)⟩
    case round =>
      obtain ⟨i, rfl, hi, HFR, HG⟩ := hrel
      by_cases hlt : i < l.length
      · have hd2 : decide ((i : Int) < (l.length : Int)) = true := by simp; omega
        have hd3 : decide (i < l.length) = true := by simpa using hlt
        obtain ⟨p1, c1, k1, hb, g0, g1, g2⟩ := HA.out.el HFR.out (by simp) (List.getElem?_eq_getElem hlt)
        have K1 := Lib.hid k1
        obtain ⟨a, ha⟩ : ∃ a, a = l[i] := ⟨_, rfl⟩
        have HMA : Hid (l[i]? = some a) := Lib.hid (by rw [ha]; exact List.getElem?_eq_getElem _)
        rw [← ha] at g0 g1 g2 K1
        clear k1 ha
        go_wp2_with fail
        refine (few_any N (size a) a (Nat.le_refl _) 30 (by omega) (by omega) _ _ K1.out).mono ?_
        rintro e w2 ⟨rfl, hf2⟩
        have HF2 := Lib.hid (HFR.out.trans hf2)
        clear hf2 g0 g1 g2
        by_cases hgd : few 30 a ≤ 30
        · have hd5 : decide (30 < few 30 a) = false := by simpa using hgd
          have HB := Lib.hid hgd
          clear hgd
          go_wp2_with fail
          go_roundw
          case rel => exact ⟨i + 1, by go_num, by omega, HF2, Lib.hid (fun j hj t ht => by
            by_cases hj' : j < i
            · exact HG.out j hj' t ht
            · obtain rfl : j = i := by omega
              rw [HMA.out] at ht
              cases ht
              exact HB.out)⟩
          case measure => simp [RowKit.intOf]; omega
        · have hd5 : decide (30 < few 30 a) = true := by simp; omega
          have hall : small l = false := by
            unfold small
            have : l.all (fun t => decide (few 30 t ≤ 30)) = false := by
              rw [List.all_eq_false]
              exact ⟨a, List.mem_of_getElem? HMA.out, by simpa using hgd⟩
            rw [this]; rfl
          have HAL := Lib.hid hall
          clear hgd hall
          go_wp2_with fail
          go_ret
          exact ⟨by rw [HAL.out]; rfl, HF2.out⟩
      · have hd2 : decide ((i : Int) < (l.length : Int)) = false := by simp; omega
        have hd3 : decide (i < l.length) = false := by simpa using hlt
        have hall : small l = decide (l.length ≤ 8) := by
          unfold small
          have : l.all (fun t => decide (few 30 t ≤ 30)) = true := by
            rw [List.all_eq_true]
            intro t ht
            obtain ⟨j, hj, rfl⟩ := List.getElem_of_mem ht
            simpa using HG.out j (by omega) _ (List.getElem?_eq_getElem hj)
          rw [this]; rfl
        have hdd : decide (l.length ≤ 8) = decide ((l.length : Int) ≤ 8) := by rw [Bool.eq_iff_iff]; simp; omega
        have HAL := Lib.hid (hall.trans hdd)
        clear hall hdd
        go_wp2_with fail
        go_ret
        exact ⟨by rw [HAL.out]; rfl, HFR.out⟩
end Go.Proofs.Ytkhbgdhgjbnhpaa
