/-
  The walks of sameHead, same, and of the reference's Same and SameAll.
-/
import Derived.Test.YtkhbgdhgjbnhpaaU8
import Derived.StillTailTactics
import Derived.Deep.QuietTactic
import Derived.BigQuiet
set_option linter.unusedVariables false
set_option linter.unusedSimpArgs false
set_option linter.unusedSectionVars false
namespace Go.Proofs.Ytkhbgdhgjbnhpaa
open Go.RowKit Go.Lib
open Un (kd nm ar size sizes same sames)

theorem eqF_same : ∀ (l l' : List Ty), eqF (fun (s : Unit) a b => (s, same a b)) () l l' = ((), sames l l') := by
  have key : ∀ (l l' : List Ty), l.length = l'.length → eqS (fun (s : Unit) a b => (s, same a b)) () l l' = ((), sames l l') := by
    intro l
    induction l with
    | nil =>
      intro l' h
      cases l' with
      | nil => simp [eqS, sames]
      | cons b r => simp at h
    | cons a r ih =>
      intro l' h
      cases l' with
      | nil => simp at h
      | cons b r' =>
        rw [eqS, sames, ih r' (by simpa using h)]
        cases same a b <;> simp
  intro l l'
  unfold eqF
  by_cases h : l.length = l'.length
  · rw [if_pos h, key l l' h]
  · rw [if_neg h]
    cases hs : sames l l' with
    | false => rfl
    | true => exact absurd (Un.sames_len hs) h
theorem size_ar {x a : Ty} (h : x ∈ ar a) : size x < size a := by cases a; exact Un.size_lt h
theorem same_mk (a b : Ty) : same a b = ((kd a == kd b && nm a == nm b) && sames (ar a) (ar b)) := by
  cases a; cases b; rw [same]; rfl
theorem samehead_any (a b : Ty) (cs ds : List Value) (w : World) (N N' : Nat → Prop) (h : TyV w N a cs) (h' : TyV w N' b ds) : Calls Try.prog 47 #[.agg cs.toArray, .agg ds.toArray] w (LookP (kd a == kd b && nm a == nm b) w) := by
  obtain ⟨p, c, rfl, _⟩ := h.shape
  obtain ⟨p', c', rfl, _⟩ := h'.shape
  clear h h'
  cases e1 : (kd a == kd b) with
  | false =>
    go_enter Try.func47, Try.ntmps47
    go_wp2_with fail
    go_ret
    exact ⟨rfl, ((Fr.refl _ _).alloc _).alloc _⟩
  | true =>
    go_enter Try.func47, Try.ntmps47
    go_wp2_with fail
    go_ret
    exact ⟨rfl, ((Fr.refl _ _).alloc _).alloc _⟩
theorem enters_same : Enters 49 := fun _ _ => by kernel_rfl
set_option maxHeartbeats 1600000 in
theorem same_any (N N' : Nat → Prop) : ∀ (n : Nat) (a : Ty), size a ≤ n → ∀ (b : Ty) (cs ds : List Value) (w : World), TyV w N a cs → TyV w N' b ds → Calls Try.prog 49 #[.agg cs.toArray, .agg ds.toArray] w (LookP (same a b) w) := by
  intro n
  induction n with
  | zero => intro t h; exact absurd (Un.size_pos t) (by omega)
  | succ n ih =>
    intro a hn b cs ds w h h'
    have IH : Hid (∀ (v v' : Value) (w : World), TysV w N (ar a) v → TysV w N' (ar b) v' → Calls Try.prog 48 #[v, v', .func (.func 49) #[] #[]] w (LookP (sames (ar a) (ar b)) w)) := by
      refine Lib.hid fun v v' w hv hv' => ?_
      have h1 := equalfunc_any 49 #[] [] N N' (fun (_ : Unit) (_ : World) => True) (fun s a b => (s, same a b)) enters_same (by simp) (by simp) (fun _ _ _ _ _ => trivial) (ar a) (ar b)
        (fun x hx y _ s cs ds w _ ht ht' => (ih x (by have := size_ar hx; omega) y cs ds w ht ht').mono (fun e w' hp => ⟨hp.1, hp.2, trivial⟩)) v v' () w trivial hv hv'
      refine h1.mono fun e w' hp => ?_
      rw [eqF_same] at hp
      exact ⟨hp.1, hp.2.1⟩
    have HS := Lib.hid (same_mk a b)
    obtain ⟨p, c, rfl, ha⟩ := h.shape
    obtain ⟨p', c', rfl, hb⟩ := h'.shape
    have HA := Lib.hid ha
    have HB := Lib.hid hb
    obtain ⟨w1, hw1⟩ : ∃ w1, w1 = (w.alloc (.cells #[.int .i64 (kd a), .int .i64 (nm a), .slice p (ar a).length c] 24)).alloc (.cells #[.int .i64 (kd b), .int .i64 (nm b), .slice p' (ar b).length c'] 24) := ⟨_, rfl⟩
    have HF0 : Hid (Fr [] w w1) := Lib.hid (by rw [hw1]; exact ((Fr.refl _ _).alloc _).alloc _)
    have HB0 : Hid (Blk w1 w.heap.size 24 #[.int .i64 (kd a), .int .i64 (nm a), .slice p (ar a).length c]) := Lib.hid (by rw [hw1]; exact (Blk.new _ _ _).alloc _)
    have HB1 : Hid (Blk w1 (w.heap.size + 1) 24 #[.int .i64 (kd b), .int .i64 (nm b), .slice p' (ar b).length c']) := Lib.hid (by rw [hw1]; exact Blk.new_at (by simp))
    have HH := Lib.hid (samehead_any a b _ _ w1 N N' (h.keep0 HF0.out) (h'.keep0 HF0.out))
    clear h h' ha hb ih hn
    go_enter Try.func49, Try.ntmps49
    go_wp2_with fail
    rw [← hw1]
    clear hw1
    refine HH.out.mono ?_
    rintro e w2 ⟨rfl, hf2⟩
    have HF2 := Lib.hid (HF0.out.trans hf2)
    have HC0 := Lib.hid (HB0.out.keep hf2 (by simp))
    have HC1 := Lib.hid (HB1.out.keep hf2 (by simp))
    clear hf2
    cases hg : (kd a == kd b && nm a == nm b) with
    | false =>
      have HG := Lib.hid hg
      clear hg
      go_wp2_with fail
      go_ret
      exact ⟨by rw [HS.out, HG.out]; rfl, HF2.out⟩
    | true =>
      have HG := Lib.hid hg
      clear hg
      have hb0 : w.heap.size < w2.heap.size := HC0.out.lt
      have hb1 : w.heap.size + 1 < w2.heap.size := HC1.out.lt
      have b0 : w2.cell? ⟨w.heap.size, 2, none⟩ = some (.slice p (ar a).length c) := HC0.out.cell 2
      have b1 : w2.cell? ⟨w.heap.size + 1, 2, none⟩ = some (.slice p' (ar b).length c') := HC1.out.cell 2
      go_wp2_with fail
      refine (IH.out _ _ _ (HA.out.keep0 HF2.out) (HB.out.keep0 HF2.out)).mono ?_
      rintro e w3 ⟨rfl, hf3⟩
      have HF3 := Lib.hid (HF2.out.trans hf3)
      clear hf3 b0 b1 hb0 hb1
      go_wp2_with fail
      go_ret
      exact ⟨by rw [HS.out, HG.out]; rfl, HF3.out⟩
set_option maxRecDepth 100000 in
set_option maxHeartbeats 1600000 in
theorem rsameall_any (N N' : Nat → Prop) (l l' : List Ty) (w : World) (hF : ∀ a ∈ l, ∀ b ∈ l', ∀ (cs ds : List Value) (w : World), TyV w N a cs → TyV w N' b ds → Calls Try.prog 16 #[.agg cs.toArray, .agg ds.toArray] w (LookP (same a b) w))
    (v v' : Value) (h : TysV w N l v) (h' : TysV w N' l' v') : Calls Try.prog 15 #[v, v'] w (LookP (sames l l') w) := by
  have HF := Lib.hid hF
  have hlm := h.len
  have hlm' := h'.len
  unfold maxLen at hlm hlm'
  clear hF
  by_cases hlen : l.length = l'.length
  · have hd : ((l.length : Int) != (l'.length : Int)) = false := by rw [hlen]; simp
    have HL := Lib.hid hlen
    rcases h.cases with ⟨rfl, p, c, rfl⟩ | ⟨hn, b, o, cap, rfl, hc, hm, hat⟩
    · have hl' : l' = [] := List.eq_nil_of_length_eq_zero hlen.symm
      subst hl'
      obtain ⟨p', c', rfl⟩ := h'.shape
      clear h h' hlen
      simp only [List.length_nil] at hd hlm hlm' ⊢
      go_enter Try.func15, Try.ntmps15
      go_wp2_with fail
      go_loopw [5] (fun v wr => v = .int .i64 0 ∧ wr = w) (fun v _ => 0)
      case atStart => exact ⟨rfl, rfl⟩
      case round =>
        obtain ⟨rfl, rfl⟩ := hrel
        go_wp2_with fail
        go_ret
        exact ⟨by rw [sames]; rfl, Fr.refl _ _⟩
    · rcases h'.cases with ⟨rfl, p, c, rfl⟩ | ⟨hn', b', o', cap', rfl, hc', hm', hat'⟩
      · exfalso; have h0 : l.length = 0 := hlen; omega
      have hlen2 := hlen
      clear hlen h h'
      obtain ⟨n, hn2⟩ : ∃ n, n = l.length := ⟨_, rfl⟩
      have hn3 : l'.length = n := by omega
      rw [← hn2] at hd hlm hc hn hlen2
      rw [hn3] at hd hlm' hc' hn' hlen2
      have HA := Lib.hid hat
      have HA' := Lib.hid hat'
      have HN2 := Lib.hid hn2
      have HN3 := Lib.hid hn3
      unfold maxLen at hm hm'
      clear hat hat' hlen2 hd hn'
      have hd : ((n : Int) != (n : Int)) = false := by simp
      rw [hn3, ← hn2]
      clear hn2 hn3
      go_enter Try.func15, Try.ntmps15
      go_wp2_with fail
      go_loopw [5] (fun v wr => ∃ i : Nat, v = .int .i64 i ∧ i ≤ n ∧ Hid (Fr [] w wr) ∧ Hid (∀ j, j < i → ∀ a b, l[j]? = some a → l'[j]? = some b → same a b = true)) (fun v _ => n - (RowKit.intOf v).toNat)
      case atStart => exact ⟨0, rfl, by omega, Lib.hid (Fr.refl _ _), Lib.hid (fun j hj => by omega)⟩
      case round =>
        obtain ⟨i, rfl, hi, HFR, HG⟩ := hrel
        by_cases hlt : i < n
        · have hd2 : decide ((i : Int) < (n : Int)) = true := by simp; omega
          have hd3 : decide (i < n) = true := by simpa using hlt
          have hi1 : i < l.length := by have := HN2.out; omega
          have hi2 : i < l'.length := by have := HN3.out; omega
          obtain ⟨p1, c1, k1, hb, g0, g1, g2⟩ := HA.out.el HFR.out (by simp) (List.getElem?_eq_getElem hi1)
          obtain ⟨p2, c2, k2, hb', g0', g1', g2'⟩ := HA'.out.el HFR.out (by simp) (List.getElem?_eq_getElem hi2)
          have K1 := Lib.hid k1
          have K2 := Lib.hid k2
          obtain ⟨a, ha⟩ : ∃ a, a = l[i] := ⟨_, rfl⟩
          obtain ⟨b2, hb2⟩ : ∃ a, a = l'[i] := ⟨_, rfl⟩
          have HMA : Hid (l[i]? = some a) := Lib.hid (by rw [ha]; exact List.getElem?_eq_getElem _)
          have HMB : Hid (l'[i]? = some b2) := Lib.hid (by rw [hb2]; exact List.getElem?_eq_getElem _)
          rw [← ha] at g0 g1 g2 K1
          rw [← hb2] at g0' g1' g2' K2
          clear k1 k2 ha hb2 hi1 hi2
          go_wp2_with fail
          go_still_tail 8, (by kernel_rfl)
          change wpList _ _ _ _ _ wr.drew
          have HF2 : Hid (Fr [] w wr.drew) := Lib.hid HFR.out.drew
          have K1' : Hid (TyV wr.drew N a [.int .i64 (kd a), .int .i64 (nm a), .slice p1 (ar a).length c1]) := Lib.hid (K1.out.keep0 ((Fr.refl _ _).drew))
          have K2' : Hid (TyV wr.drew N' b2 [.int .i64 (kd b2), .int .i64 (nm b2), .slice p2 (ar b2).length c2]) := Lib.hid (K2.out.keep0 ((Fr.refl _ _).drew))
          clear g0 g1 g2 g0' g1' g2' hb hb' K1 K2 HFR
          generalize wr.drew = w2 at HF2 K1' K2'
          go_wp2_with fail
          refine (HF.out a (List.mem_of_getElem? HMA.out) b2 (List.mem_of_getElem? HMB.out) _ _ _ K1'.out K2'.out).mono ?_
          rintro e w3 ⟨rfl, hf3⟩
          have HF3 := Lib.hid (HF2.out.trans hf3)
          clear hf3
          cases hgd : same a b2 with
          | true =>
            have HB := Lib.hid hgd
            clear hgd
            go_wp2_with fail
            go_roundw
            case rel => exact ⟨i + 1, by go_num, by omega, HF3, Lib.hid (fun j hj x y hx hy => by
              by_cases hj' : j < i
              · exact HG.out j hj' x y hx hy
              · obtain rfl : j = i := by omega
                rw [HMA.out] at hx
                rw [HMB.out] at hy
                cases hx
                cases hy
                exact HB.out)⟩
            case measure => simp [RowKit.intOf]; omega
          | false =>
            have hall : sames l l' = false := by
              cases hs : sames l l' with
              | false => rfl
              | true =>
                have := (Un.sames_iff.1 hs).2 i a b2 HMA.out HMB.out
                rw [this] at hgd; cases hgd
            have HAL := Lib.hid hall
            clear hgd hall
            go_wp2_with fail
            go_ret
            exact ⟨by rw [HAL.out]; rfl, HF3.out⟩
        · have hd2 : decide ((i : Int) < (n : Int)) = false := by simp; omega
          have hd3 : decide (i < n) = false := by simpa using hlt
          have hall : sames l l' = true := Un.sames_iff.2 ⟨HL.out, fun j a b hj hb => HG.out j (by
            have : j < l.length := by
              rcases Nat.lt_or_ge j l.length with h | h
              · exact h
              · rw [List.getElem?_eq_none h] at hj; cases hj
            have := HN2.out
            omega) a b hj hb⟩
          have HAL := Lib.hid hall
          clear hall
          go_wp2_with fail
          go_ret
          exact ⟨by rw [HAL.out]; rfl, HFR.out⟩
  · have hd : ((l.length : Int) != (l'.length : Int)) = true := by simp; omega
    have hall : sames l l' = false := by
      cases hs : sames l l' with
      | false => rfl
      | true => exact absurd (Un.sames_len hs) hlen
    have HAL := Lib.hid hall
    obtain ⟨p, c, rfl⟩ := h.shape
    obtain ⟨p', c', rfl⟩ := h'.shape
    clear hall h h' hlen
    go_enter Try.func15, Try.ntmps15
    go_wp2_with fail
    go_ret
    exact ⟨by rw [HAL.out]; rfl, Fr.refl _ _⟩
set_option maxHeartbeats 1600000 in
theorem rsame_any (N N' : Nat → Prop) : ∀ (n : Nat) (a : Ty), size a ≤ n → ∀ (b : Ty) (cs ds : List Value) (w : World), TyV w N a cs → TyV w N' b ds → Calls Try.prog 16 #[.agg cs.toArray, .agg ds.toArray] w (LookP (same a b) w) := by
  intro n
  induction n with
  | zero => intro t h; exact absurd (Un.size_pos t) (by omega)
  | succ n ih =>
    intro a hn b cs ds w h h'
    have IH : Hid (∀ (v v' : Value) (w : World), TysV w N (ar a) v → TysV w N' (ar b) v' → Calls Try.prog 15 #[v, v'] w (LookP (sames (ar a) (ar b)) w)) :=
      Lib.hid fun v v' w hv hv' => rsameall_any N N' (ar a) (ar b) w (fun x hx y _ cs ds w ht ht' => ih x (by have := size_ar hx; omega) y cs ds w ht ht') v v' hv hv'
    have HS := Lib.hid (same_mk a b)
    obtain ⟨p, c, rfl, ha⟩ := h.shape
    obtain ⟨p', c', rfl, hb⟩ := h'.shape
    obtain ⟨w1, hw1⟩ : ∃ w1, w1 = (w.alloc (.cells #[.int .i64 (kd a), .int .i64 (nm a), .slice p (ar a).length c] 24)).alloc (.cells #[.int .i64 (kd b), .int .i64 (nm b), .slice p' (ar b).length c'] 24) := ⟨_, rfl⟩
    have HF0 : Hid (Fr [] w w1) := Lib.hid (by rw [hw1]; exact ((Fr.refl _ _).alloc _).alloc _)
    have HA := Lib.hid (ha.keep0 HF0.out)
    have HB := Lib.hid (hb.keep0 HF0.out)
    clear h h' ha hb ih hn
    by_cases hk : kd a = kd b ∧ nm a = nm b
    · have e1 : (kd a == kd b) = true := by simp [hk.1]
      have e2 : (nm a == nm b) = true := by simp [hk.2]
      have HG : Hid (same a b = sames (ar a) (ar b)) := Lib.hid (by rw [HS.out, e1, e2]; rfl)
      clear hk
      go_enter Try.func16, Try.ntmps16
      go_wp2_with fail
      rw [← hw1]
      clear hw1
      refine (IH.out _ _ _ HA.out HB.out).mono ?_
      rintro e w3 ⟨rfl, hf3⟩
      have HF3 := Lib.hid (HF0.out.trans hf3)
      clear hf3
      go_wp2_with fail
      go_ret
      exact ⟨by rw [HG.out]; rfl, HF3.out⟩
    · have HG : Hid (same a b = false) := Lib.hid (by
        rw [HS.out]
        by_cases h1 : kd a = kd b
        · have : ¬ nm a = nm b := fun h => hk ⟨h1, h⟩
          simp [h1, this]
        · simp [h1])
      by_cases h1 : kd a = kd b
      · have e1 : (kd a == kd b) = true := by simp [h1]
        have e2 : (nm a == nm b) = false := by simp; exact fun h => hk ⟨h1, h⟩
        clear hk h1
        go_enter Try.func16, Try.ntmps16
        go_wp2_with fail
        go_ret
        exact ⟨by rw [HG.out]; rfl, by rw [← hw1]; exact HF0.out⟩
      · have e1 : (kd a == kd b) = false := by simp [h1]
        clear hk h1
        go_enter Try.func16, Try.ntmps16
        go_wp2_with fail
        go_ret
        exact ⟨by rw [HG.out]; rfl, by rw [← hw1]; exact HF0.out⟩
end Go.Proofs.Ytkhbgdhgjbnhpaa
