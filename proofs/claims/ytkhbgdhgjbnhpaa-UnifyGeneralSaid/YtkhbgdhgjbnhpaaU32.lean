/-
  The walk of Match.
-/
import Derived.Test.YtkhbgdhgjbnhpaaU31
import Derived.Laws.EntriesVeiled
set_option linter.unusedVariables false
set_option linter.unusedSimpArgs false
set_option linter.unusedSectionVars false
namespace Go.Proofs.Ytkhbgdhgjbnhpaa
open Go.RowKit Go.Lib
open Un (kd nm ar size sizes same mt pars)

theorem eqS_inv {σ : Type} {step : σ → Ty → Ty → σ × Bool} (P : σ → Prop) : ∀ (l l' : List Ty) (s : σ), (∀ a ∈ l, ∀ b ∈ l', ∀ s, P s → P (step s a b).1) → P s → P (eqS step s l l').1
  | [], _, s, _, hs => by rw [eqS]; exact hs; intro _ _ _ _ h; cases h
  | _ :: _, [], s, _, hs => by rw [eqS]; exact hs; intro _ _ _ _ _ h; cases h
  | a :: r, b :: r', s, h, hs => by
    rw [eqS]
    have h1 := h a (by simp) b (by simp) s hs
    split
    · exact eqS_inv P r r' _ (fun x hx y hy => h x (by simp [hx]) y (by simp [hy])) h1
    · exact h1
theorem eqS_inv2 {σ : Type} {step : σ → Ty → Ty → σ × Bool} (P : σ → Prop) : ∀ (l l' : List Ty) (s : σ), (∀ a ∈ l, ∀ b ∈ l', ∀ s, P s → (step s a b).2 = true → P (step s a b).1) → P s → (eqS step s l l').2 = true → P (eqS step s l l').1
  | [], _, s, _, hs => by rw [eqS]; intro _; exact hs; intro _ _ _ _ h; cases h
  | _ :: _, [], s, _, hs => by rw [eqS]; intro _; exact hs; intro _ _ _ _ _ h; cases h
  | a :: r, b :: r', s, h, hs => by
    rw [eqS]
    split
    · rename_i h2
      exact eqS_inv2 P r r' _ (fun x hx y hy => h x (by simp [hx]) y (by simp [hy])) (h a (by simp) b (by simp) s hs h2)
    · intro h3; cases h3
theorem mt_found (n : Int) (M : Nat) : ∀ (z : Nat) (a : Ty), size a ≤ z → ∀ (b : Ty), size b ≤ M → ∀ (s : Int → Option Ty), (∀ i u, s i = some u → size u ≤ M) → ∀ i u, (mt n a b s).1 i = some u → size u ≤ M := by
  intro z
  induction z with
  | zero => intro a h; exact absurd (Un.size_pos a) (by omega)
  | succ z ih =>
    intro a hz b hb s hs
    rw [Un.mt_eq]
    split
    · cases h : s (nm a) with
      | some e => exact hs
      | none =>
        intro i u hu
        simp only at hu
        split at hu
        · simp only [Option.some.injEq] at hu; subst hu; exact hb
        · exact hs i u hu
    · split
      · unfold eqF
        split
        · exact eqS_inv (fun (s : Int → Option Ty) => ∀ i u, s i = some u → size u ≤ M) (ar a) (ar b) s (fun x hx y hy s hs => ih x (by have := size_ar hx; omega) y (by have := size_ar hy; omega) s hs) hs
        · exact hs
      · exact hs
theorem mt_keys (n : Int) : ∀ (z : Nat) (a : Ty), size a ≤ z → ∀ (b : Ty) (s : Int → Option Ty), (∀ i, (s i).isSome = true → 0 ≤ i ∧ i < n) → (mt n a b s).2 = true → ∀ i, ((mt n a b s).1 i).isSome = true → 0 ≤ i ∧ i < n := by
  intro z
  induction z with
  | zero => intro a h; exact absurd (Un.size_pos a) (by omega)
  | succ z ih =>
    intro a hz b s hs
    rw [Un.mt_eq]
    split
    · cases h : s (nm a) with
      | some e => intro _; exact hs
      | none =>
        simp only [Bool.and_eq_true, decide_eq_true_eq]
        intro h2 i hi
        split at hi
        · rename_i e; subst e; exact h2
        · exact hs i hi
    · split
      · unfold eqF
        split
        · exact eqS_inv2 (fun (s : Int → Option Ty) => ∀ i, (s i).isSome = true → 0 ≤ i ∧ i < n) (ar a) (ar b) s (fun x hx y hy s hs => ih x (by have := size_ar hx; omega) y s hs) hs
        · intro h; cases h
      · intro h; cases h
/-- what Match answers -/
def Un.matched (n : Nat) (a b : Ty) : Option (List Ty) := if (mt (n : Int) a b (fun _ => none)).2 then some ((List.range n).map fun (i : Nat) => ((mt (n : Int) a b (fun _ => none)).1 (i : Int)).getD Un.zero) else none
def MatchP (r : Option (List Ty)) (w : World) (e : Ending) (w' : World) : Prop :=
  Fr [] w w' ∧ match r with
  | none => e = .returned (.tuple #[.slice none 0 0, .bool false])
  | some l => ∃ v, e = .returned (.tuple #[v, .bool true]) ∧ TysV w' (fun k => w.heap.size ≤ k) l v
theorem run_makeMatch (w : World) (a b c : Value) : (Instr.makeFunc (.func 46) #[] #[a, b, c]).run Try.prog w = .ok (.func (.func 46) #[] #[a, b, c]) w := rfl
def mkTyV (q : Int × Int × Option Addr × Nat × Nat) : Value := .agg #[.int .i64 q.1, .int .i64 q.2.1, .slice q.2.2.1 q.2.2.2.1 q.2.2.2.2]
theorem invK_int (key : Value) (kl : Lit) (h : keyOf Try.prog 3 key = some kl) : ∃ x, key = Value.int .i64 x := by
  obtain ⟨x, h1, _⟩ := Maps.keyOf_int_inv Try.underlying3 h
  exact ⟨x, h1⟩
theorem invV_ty (v : Value) (y : DataW Value × List MemPlace) (h : tyElem v = some y) : ∃ q, v = mkTyV q := by
  obtain ⟨⟨a, b, p, n, c, rfl⟩, _⟩ := tyElem_inv h
  exact ⟨(a, b, p, n, c), rfl⟩
theorem Fr.grown1 {w w' : World} {X : List Nat} {row : Option Nat} (h : Fr X w w') (hX : ∀ k ∈ X, row = some k) : w.grownBy w' row :=
  ⟨h.os, h.tape, h.output, h.size, fun k hk hne => h.block k hk (fun hx => hne (hX k hx).symm)⟩
/-- an entry that the range hands over -/
theorem entry_ty {w : World} {N : Nat → Prop} {D : DataW Value} {f : Int → Option Ty} (hh : ∀ i : Int, (Lit.int .i64 i).wf = true → HoldsTy w N D i (f i)) {x : Int} {q : Int × Int × Option Addr × Nat × Nat} {kl : Lit} {y : DataW Value × List MemPlace}
    (hkey : keyOf Try.prog 3 (.int .i64 x) = some kl) (hel : tyElem (mkTyV q) = some y) (hat : ∀ zd, D.atKey kl zd = y.1) : kl = .int .i64 x ∧ ∃ u p c, f x = some u ∧ q = (kd u, nm u, p, (ar u).length, c) ∧ TyV w N u [.int .i64 (kd u), .int .i64 (nm u), .slice p (ar u).length c] := by
  obtain ⟨x', h1, rfl, hw⟩ := Maps.keyOf_int_inv Try.underlying3 hkey
  cases h1
  refine ⟨rfl, ?_⟩
  have h2 := (tyElem_inv hel).2
  have h3 := hh x hw
  subst h2
  simp only at hat
  revert h3
  cases hf : f x with
  | none =>
    intro h3
    have h4 := hat .nil
    rw [Maps.atKey_of_not_has h3] at h4
    cases h4
  | some u =>
    rintro ⟨_, cs, h4, h5⟩
    have h6 := hat .nil
    rw [h4] at h6
    simp only [DataW.held.injEq] at h6
    obtain ⟨p, c, rfl, _⟩ := h5.shape
    refine ⟨u, p, c, rfl, ?_, h5⟩
    obtain ⟨q1, q2, q3, q4, q5⟩ := q
    simp [mkTyV] at h6
    obtain ⟨e1, e2, e3, e4, e5⟩ := h6
    rw [e1, e2, e3, e4, e5]
set_option maxRecDepth 100000 in
set_option maxHeartbeats 3200000 in
theorem match_any (N : Nat → Prop) (a b : Ty) (n : Nat) (hn : n ≤ 4) (hs : size a ≤ 100000) (hsb : size b ≤ 100000) (hpar : ∀ i ∈ pars a, (Lit.int .i64 i).wf = true) (hpl : (pars a).length ≤ 100000) (cs ds : List Value) (w : World) (ha : TyV w N a cs) (hb : TyV w N b ds) :
    Calls Try.prog 13 #[.agg cs.toArray, .agg ds.toArray, .int .i64 n] w (MatchP (Un.matched n a b) w) := by
  have HA := Lib.hid (TyV.weak (N' := fun k => k < w.heap.size) ha (fun k hk _ => hk))
  have HB := Lib.hid (TyV.weak (N' := fun k => k < w.heap.size) hb (fun k hk _ => hk))
  obtain ⟨p, c, rfl, _⟩ := ha.shape
  obtain ⟨p', c', rfl, _⟩ := hb.shape
  have hE : ∀ (args : Array Value) (w : World), (callFunc 46 args).run Try.prog w = .ok (.enter 46 args) w := enters_match1
  have hmm := @run_makeMap Try.prog
  have hmf := run_makeMatch
  have hd1 : decide ((n : Int) < 0) = false := by simp
  have hd2 : decide ((4 : Int) < (n : Int)) = false := by simp; omega
  obtain ⟨w1, hw1⟩ : ∃ w1, w1 = (((((w.alloc (.cells #[.int .i64 (kd a), .int .i64 (nm a), .slice p (ar a).length c] 24)).alloc (.cells #[.int .i64 (kd b), .int .i64 (nm b), .slice p' (ar b).length c'] 24)).alloc (.cells #[.int .i64 n] 3)).alloc (.map #[] 0)).alloc (.cells #[.map (some (w.heap.size + 1 + 1 + 1))] 71)).alloc (.cells #[.func (.func 46) #[] #[.pointer (some ⟨w.heap.size + 1 + 1 + 1 + 1 + 1, 0, none⟩), .pointer (some ⟨w.heap.size + 1 + 1 + 1 + 1, 0, none⟩), .pointer (some ⟨w.heap.size + 1 + 1, 0, none⟩)]] 42) := ⟨_, rfl⟩
  have HF1 : Hid (Fr [] w w1) := Lib.hid (by rw [hw1]; exact ((((((Fr.refl _ _).alloc _).alloc _).alloc _).alloc _).alloc _).alloc _)
  have HI1 : Hid (FoundI (fun k => k < w.heap.size) (pars a) n (w.heap.size + 1 + 1 + 1) (w.heap.size + 1 + 1 + 1 + 1 + 1) (w.heap.size + 1 + 1 + 1 + 1) (w.heap.size + 1 + 1) (fun _ => none) w1) := Lib.hid (by
    have h1 := MapTy.made (((w.alloc (.cells #[.int .i64 (kd a), .int .i64 (nm a), .slice p (ar a).length c] 24)).alloc (.cells #[.int .i64 (kd b), .int .i64 (nm b), .slice p' (ar b).length c'] 24)).alloc (.cells #[.int .i64 n] 3)) (fun k => k < w.heap.size)
    rw [show (((w.alloc (.cells #[.int .i64 (kd a), .int .i64 (nm a), .slice p (ar a).length c] 24)).alloc (.cells #[.int .i64 (kd b), .int .i64 (nm b), .slice p' (ar b).length c'] 24)).alloc (.cells #[.int .i64 n] 3)).heap.size = w.heap.size + 1 + 1 + 1 from by simp] at h1
    refine ⟨?_, fun i hi => by simp at hi, ?_, ?_, ?_, by omega⟩
    · rw [hw1]
      exact (h1.keep (X := []) (((Fr.refl _ _).alloc _).alloc _) (by simp) (by simp)).mono (Nat.zero_le _)
    · rw [hw1]; exact Blk.new_at (by simp)
    · rw [hw1]; exact (Blk.new_at (by simp)).alloc _
    · rw [hw1]; exact (((Blk.new_at (by simp)).alloc _).alloc _).alloc _)
  clear ha hb
  go_enter Try.func13, Try.ntmps13
  go_wp2_with fail
  rw [← hw1]
  clear hw1
  refine (match1_any (fun k => k < w.heap.size) (pars a) n _ _ _ _ (by omega) hpl (size a) a (Nat.le_refl _) (fun i hi => ⟨hpar i hi, hi⟩) b (fun _ => none) _ _ w1 HI1.out (HA.out.keep0 HF1.out) (HB.out.keep0 HF1.out)).mono ?_
  rintro e w2 ⟨rfl, hf2, hI2⟩
  have HF2 := Lib.hid (((HF1.out.nil [w.heap.size + 1 + 1 + 1]).trans hf2).drop (by omega))
  have HI2 := Lib.hid hI2
  clear hf2 hI2
  have HMD : Hid (Un.matched n a b = if (mt (n : Int) a b (fun _ => none)).2 then some ((List.range n).map fun (i : Nat) => ((mt (n : Int) a b (fun _ => none)).1 (i : Int)).getD Un.zero) else none) := Lib.hid rfl
  have HFO := Lib.hid (mt_found n 100000 (size a) a (Nat.le_refl _) b hsb (fun _ => none) (fun i u h => by cases h))
  have HKY := Lib.hid (mt_keys n (size a) a (Nat.le_refl _) b (fun _ => none) (fun i h => by cases h))
  obtain ⟨r, hr⟩ : ∃ r, r = mt (n : Int) a b (fun _ => none) := ⟨_, rfl⟩
  rw [← hr] at HI2 HMD HFO HKY ⊢
  cases h2 : r.2 with
  | false =>
    have H2 := Lib.hid h2
    go_wp2_with fail
    refine bodyPost_ret (v := .tuple #[.slice none 0 0, .bool false]) (by simp [results, Try.results13, go_sem]) rfl ?_
    unfold MatchP
    rw [HMD.out, H2.out]
    exact ⟨HF2.out, rfl⟩
  | true =>
    have HK2 := Lib.hid (HKY.out h2)
    have HMD2 : Hid (Un.matched n a b = some ((List.range n).map fun (i : Nat) => (r.1 (i : Int)).getD Un.zero)) := Lib.hid (by rw [HMD.out, h2]; rfl)
    obtain ⟨j0, hj0, jz0, jz1, jz2⟩ := info_parts info_ty
    have hms : ∀ w1 : World, (Instr.makeSlice 22 (.int .i64 (n : Int)) (.int .i64 (n : Int))).run Try.prog w1 = .ok (.slice (some ⟨w1.heap.size, 0, none⟩) n n) (w1.alloc (.cells (madeCells #[.int .i64 0, .int .i64 0, .slice none 0 0] (n * 3)) 24)) := fun w1 => by
      have := run_makeSlice w1 22 24 j0 _ Try.underlying22 hj0 jz0 .i64 .i64 n n (by omega) (Int.le_refl _) (by rw [jz1]; simp; omega) (by rw [jz2]; omega) (by omega)
      rw [jz1] at this
      simpa [Value.cells] using this
    obtain ⟨D, hD, hh⟩ := HI2.out.map
    have HHH := Lib.hid hh
    have HDD := Lib.hid hD
    have s0 : w2.cell? ⟨w.heap.size + 1 + 1, 0, none⟩ = some (.int .i64 n) := HI2.out.cPar.cell 0
    have s1 : w2.cell? ⟨w.heap.size + 1 + 1 + 1 + 1, 0, none⟩ = some (.map (some (w.heap.size + 1 + 1 + 1))) := HI2.out.cMap.cell 0
    have l0 : w.heap.size + 1 + 1 < w2.heap.size := HI2.out.cPar.lt
    have l1 : w.heap.size + 1 + 1 + 1 + 1 < w2.heap.size := HI2.out.cMap.lt
    have l3 : w.heap.size + 1 + 1 + 1 < w2.heap.size := hD.lt
    have l2 : w.heap.size + 1 + 1 + 1 + 1 < w2.heap.size + 1 := by omega
    have HAR : Hid (ArrV (w2.alloc (.cells (madeCells #[.int .i64 0, .int .i64 0, .slice none 0 0] (n * 3)) 24)) (fun k => w2.heap.size + 2 ≤ k) w2.heap.size (List.replicate n Un.zero)) := Lib.hid (ArrV.made _ _ _)
    have e1 : (w2.alloc (.cells (madeCells #[.int .i64 0, .int .i64 0, .slice none 0 0] (n * 3)) 24)).heap.size = w2.heap.size + 1 := by simp
    clear hh hD hj0 jz0 jz1 jz2 hmm hmf
    go_wp2_with (at_range; refine wpList_range_own _ rfl _ 71 rfl 3 24 keyed_int Try.underlying71 _ (w.heap.size + 1 + 1 + 1) (pars a).length _ rfl (HDD.out.alloc _) ?_; intro w3 hrg0 hg0 hs0)
    go_frame
    rw [e1] at hrg0 hs0 ⊢
    have HR0 := Lib.hid hrg0
    have HF3 : Hid (Fr [] w2 w3) := Lib.hid (((Fr.refl [] w2).alloc (.cells (madeCells #[.int .i64 0, .int .i64 0, .slice none 0 0] (n * 3)) 24)).grown hg0 (fun k hk => by cases hk))
    have HA3 := Lib.hid (HAR.out.keep0 ((Fr.refl [] _).grown hg0 (fun k hk => by cases hk)))
    have HS0 := Lib.hid hs0
    have HZ2 := Lib.hid HF2.out.size
    clear hrg0 hg0 hs0 s0 s1 l0 l1 l2 l3 e1 HAR hms
    go_loopw [30] (fun _ wr => ∃ (left : Lit → Bool) (cnt : Nat) (out : List Ty), Hid (wr.ranges Try.prog 3 tyElem (w.heap.size + 1 + 1 + 1) (w2.heap.size + 1) (pars a).length D left cnt) ∧ Hid (ArrV wr (fun k => w2.heap.size + 2 ≤ k) w2.heap.size out) ∧ out.length = n ∧ Hid (∀ i : Nat, i < n → out[i]? = some (if left (.int .i64 i) then Un.zero else (r.1 (i : Int)).getD Un.zero)) ∧ Hid (Fr [] w2 wr)) (fun _ wr => wr.rangeLeft (w.heap.size + 1 + 1 + 1) (w2.heap.size + 1))
    case atStart =>
      refine ⟨_, _, _, HR0, HA3, by simp, Lib.hid (fun i hi => ?_), HF3⟩
      rw [List.getElem?_eq_getElem (by simpa using hi), List.getElem_replicate]
      congr 1
      have h1 := HHH.out i (WalkArith.wf_i64 (by omega))
      split
      · rfl
      · rename_i h3
        revert h1
        cases r.1 (i : Int) with
        | none => intro _; rfl
        | some u => intro h1; exact absurd h1.1 h3
    case round =>
      obtain ⟨left, cnt, out, HRG, HAR, hlen, HOUT, HFR⟩ := hrel
      go_wp2_with (at_next; refine wpList_next_ranges _ rfl _ rfl 3 keyed_int tyElem (Value.int .i64) mkTyV invK_int invV_ty (w.heap.size + 1 + 1 + 1) (w2.heap.size + 1) (pars a).length D left cnt rfl HRG.out ?_ ?_)
      · intro hc0 hl0
        go_wp2_with fail
        refine bodyPost_ret (v := .tuple #[.slice (some ⟨w2.heap.size, 0, none⟩) n n, .bool true]) (by simp [results, Try.results13, go_sem]) rfl ?_
        unfold MatchP
        rw [HMD2.out]
        refine ⟨HF2.out.trans HFR.out, _, rfl, ?_⟩
        have hl : out = (List.range n).map fun (i : Nat) => (r.1 (i : Int)).getD Un.zero := by
          refine List.ext_getElem? fun i => ?_
          by_cases hi : i < n
          · rw [HOUT.out i hi, hl0]
            simp [hi]
          · rw [List.getElem?_eq_none (by omega), List.getElem?_eq_none (by simp; omega)]
        rw [← hl]
        have h3 := HAR.out.tysV (N' := fun k => w.heap.size ≤ k) (by omega) (fun k _ hk => by have := HZ2.out; omega) HZ2.out
        rw [hlen] at h3
        exact h3
      · intro x z1 z2 z3 z4 z5 kl y1 y2 w4 cnt4 hkey hlx hel hat hrg4 hlt4 hg4 hs4 hen
        obtain ⟨rfl, u, p5, c5, hfu, hq, hT⟩ := entry_ty (y := (y1, y2)) HHH.out hkey hel hat
        simp only [Prod.mk.injEq] at hq
        obtain ⟨rfl, rfl, rfl, rfl, rfl⟩ := hq
        obtain ⟨hx0, hx1⟩ := HK2.out x (by rw [hfu]; rfl)
        obtain ⟨j, rfl⟩ : ∃ j : Nat, x = j := ⟨x.toNat, by omega⟩
        have hjn : j < n := by omega
        have hd3 : decide (j < n) = true := by simpa using hjn
        have hfr4 : Fr [w2.heap.size + 1] wr w4 := (Fr.refl _ wr).grown hg4 (fun k hk => by cases hk; exact .inl (by simp))
        have hF4 : Fr [] w2 w4 := ((HFR.out.nil [w2.heap.size + 1]).trans hfr4).drop (by omega)
        have hA4 := HAR.out.keep hfr4 (by simp) (fun k hk => by simp only [List.mem_singleton] at hk; omega)
        have HT4 := Lib.hid (hT.keep0 hF4)
        have HF4 := Lib.hid hF4
        have HA4 := Lib.hid hA4
        have HRG4 := Lib.hid hrg4
        have HFU := Lib.hid hfu
        have HSU := Lib.hid (HFO.out _ _ hfu)
        unfold mkTyV at hen ⊢
        simp only at hen ⊢
        clear hkey hel hat hT hfr4 hF4 hA4 hrg4 hfu hg4 hx0 hx1
        go_wp2_with fail
        have hf5 : Fr [] w4 (w4.alloc (.cells #[.int .i64 (kd u), .int .i64 (nm u), .slice z3 (ar u).length z5] 24)) := (Fr.refl _ _).alloc _
        refine (copied_any u _ _ (fun k => k < w.heap.size) (HT4.out.keep0 hf5) HSU.out).mono ?_
        rintro e w6 ⟨hf6, ds, rfl, hty⟩
        obtain ⟨p6, c6, rfl, _⟩ := hty.shape
        have HA6 := Lib.hid (HA4.out.keep0 (hf5.trans hf6))
        have HF6 := Lib.hid (HF4.out.trans (hf5.trans hf6))
        have HF46 := Lib.hid (hf5.trans hf6)
        have HT6 := Lib.hid (TyV.weak (N' := fun k => w2.heap.size + 2 ≤ k) hty (fun k hk h => by have h1 := HRG4.out.lt; have h2 : (w4.alloc (.cells #[.int .i64 (kd u), .int .i64 (nm u), .slice z3 (ar u).length z5] 24)).heap.size = w4.heap.size + 1 := (by simp); have h3 : (w4.alloc (.cells #[.int .i64 (kd u), .int .i64 (nm u), .slice z3 (ar u).length z5] 24)).heap.size ≤ k := h; omega))
        clear hf5 hf6 hty
        obtain ⟨p7, c7, _, r0, r1, r2, r3⟩ := HA6.out.el (List.getElem?_eq_getElem (show j < out.length by omega))
        have r4 := HA6.out.lt
        have t0 := r3 (j * 3)
        have t1 := r3 (j * 3 + 1)
        have t2 := r3 (j * 3 + 2)
        clear r3
        go_wp2_with fail
        have hrg7 := HRG4.out.kept (row := some w2.heap.size) ((HF46.out.nil [w2.heap.size]).trans (Fr.cells3 w6 w2.heap.size (j * 3) (.int .i64 (kd u)) (.int .i64 (nm u)) (.slice p6 (ar u).length c6)) |>.grown1 (fun k hk => by simp only [List.mem_singleton] at hk; rw [hk])) (fun e => by have h1 := Option.some.inj e; have h2 := HRG.out.owns.lt; have h3 := HZ2.out; have h4 := HDD.out.lt; omega) (fun e => by have h1 := Option.some.inj e; omega)
        go_roundw
        case rel =>
          refine ⟨_, cnt4, out.set j u, Lib.hid hrg7, Lib.hid (HA6.out.set (by omega) HT6.out (by omega)), by simp; exact hlen, Lib.hid (fun i hi => ?_), Lib.hid (((HF6.out.nil [w2.heap.size]).trans (Fr.cells3 _ _ _ _ _ _)).drop (Nat.le_refl _))⟩
          by_cases e : i = j
          · subst e
            rw [List.getElem?_set_self (by omega), HFU.out]
            have hsk : (Lit.int .i64 (i : Int)).sameKey (.int .i64 (i : Int)) = true := WideAt.sameKey_self trivial
            simp [hsk]
          · rw [List.getElem?_set_ne (by omega), HOUT.out i hi]
            have hsk : (Lit.int .i64 (i : Int)).sameKey (.int .i64 (j : Int)) = false := Maps.sameKey_ne (by simp; omega)
            simp [hsk]
        case measure => rw [hrg7.left_eq, HRG.out.left_eq]; exact hlt4
end Go.Proofs.Ytkhbgdhgjbnhpaa
