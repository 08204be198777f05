/-
  The walk of variablesOf.
-/
import Derived.Test.YtkhbgdhgjbnhpaaU23
set_option linter.unusedVariables false
set_option linter.unusedSimpArgs false
set_option linter.unusedSectionVars false
namespace Go.Proofs.Ytkhbgdhgjbnhpaa
open Go.RowKit Go.Lib
open Un (kd nm ar size sizes over)

namespace Un
def upd (f : Int → Option Int) (i v : Int) : Int → Option Int := fun j => if j = i then some v else f j
mutual
/-- the variables in a type, each with the levels above it where it is deepest -/
def above : Ty → (Int → Option Int) → Int → (Int → Option Int)
  | .mk k i al, f, lv => if k = 9 then upd f i (max ((f i).getD 0) lv) else aboves al f (lv + 1)
def aboves : List Ty → (Int → Option Int) → Int → (Int → Option Int)
  | [], f, _ => f
  | a :: r, f, lv => aboves r (above a f lv) lv
end
theorem above_eq (t : Ty) (f : Int → Option Int) (lv : Int) : above t f lv = if kd t = 9 then upd f (nm t) (max ((f (nm t)).getD 0) lv) else aboves (ar t) f (lv + 1) := by cases t; rw [above]; rfl
theorem aboves_app (m : List Ty) : ∀ (l : List Ty) (f : Int → Option Int) (lv : Int), aboves (l ++ m) f lv = aboves m (aboves l f lv) lv
  | [], f, lv => by rw [aboves]; rfl
  | a :: r, f, lv => by rw [List.cons_append, aboves, aboves, aboves_app m r]
theorem aboves_take {l : List Ty} {i : Nat} (hi : i < l.length) (f : Int → Option Int) (lv : Int) : aboves (l.take (i + 1)) f lv = above l[i] (aboves (l.take i) f lv) lv := by
  rw [List.take_succ_eq_append_getElem hi, aboves_app, aboves, aboves]
/-- the levels are small -/
def Bd (f : Int → Option Int) : Prop := ∀ j v, f j = some v → 0 ≤ v ∧ v ≤ 200000
theorem Bd.get {f : Int → Option Int} (h : Bd f) (j : Int) : 0 ≤ (f j).getD 0 ∧ (f j).getD 0 ≤ 200000 := by
  cases e : f j with
  | none => simp
  | some v => simpa using h j v e
theorem Bd.upd {f : Int → Option Int} (h : Bd f) (i : Int) {v : Int} (h0 : 0 ≤ v) (h1 : v ≤ 200000) : Bd (upd f i v) := by
  intro j u hu
  unfold Un.upd at hu
  split at hu
  · simp only [Option.some.injEq] at hu; subst hu; exact ⟨h0, h1⟩
  · exact h j u hu
theorem sizes_take : ∀ (l : List Ty) (i : Nat), sizes (l.take i) ≤ sizes l
  | [], i => by simp
  | a :: r, 0 => by rw [List.take_zero, sizes]; omega
  | a :: r, i + 1 => by
    rw [List.take_succ_cons, sizes, sizes]
    have := sizes_take r i
    omega
theorem sizes_snoc {l : List Ty} {i : Nat} (hi : i < l.length) : sizes (l.take (i + 1)) = sizes (l.take i) + size l[i] := by
  rw [List.take_succ_eq_append_getElem hi]
  have key : ∀ (l : List Ty) (a : Ty), sizes (l ++ [a]) = sizes l + size a := by
    intro l a
    induction l with
    | nil => simp [sizes]
    | cons b r ih => rw [List.cons_append, sizes, ih, sizes]; omega
  exact key _ _
end Un
open Un (above aboves Bd)
/-- what collect leaves -/
def CollP (m k : Nat) (f : Int → Option Int) (w : World) (e : Ending) (w' : World) : Prop := e = .returned (.tuple #[]) ∧ MapII w' m k f ∧ Bd f ∧ Fr [m] w w'
def collF (pa pf : Nat) : Value := .func (.func 95) #[] #[.pointer (some ⟨pa, 0, none⟩), .pointer (some ⟨pf, 0, none⟩)]
namespace Un
mutual
/-- the variables in a type are of a substitution, and have no arguments -/
def vin (n : Int) : Ty → Bool
  | .mk k i al => if k = 9 then (decide (0 ≤ i) && decide (i < n)) && al.isEmpty else vins n al
def vins (n : Int) : List Ty → Bool
  | [] => true
  | a :: r => vin n a && vins n r
end
theorem vins_all (n : Int) : ∀ l, vins n l = l.all (vin n)
  | [] => by rw [vins]; rfl
  | a :: r => by rw [vins, vins_all n r]; rfl
theorem vin_eq (n : Int) (t : Ty) : vin n t = if kd t = 9 then (decide (0 ≤ nm t) && decide (nm t < n)) && (ar t).isEmpty else (ar t).all (vin n) := by cases t; rw [vin, vins_all]; rfl
theorem vin_of_over (n : Int) : ∀ t, over n t = true → vin n t = true := by
  refine Un.Ty.ind fun k x al ih => ?_
  intro h
  rw [over_eq] at h
  rw [vin_eq]
  by_cases e : kd (Ty.mk k x al) = 9
  · rw [if_pos e] at h ⊢; exact h
  · rw [if_neg e] at h ⊢
    simp only [Bool.and_eq_true, List.all_eq_true] at h
    rw [List.all_eq_true]
    exact fun a ha => ih a ha (h.2 a ha)
theorem vin_of_unsolved (n : Int) (t : Ty) (h : unsolved t = true) : vin n t = true := by
  unfold unsolved at h
  simp only [Bool.and_eq_true, beq_iff_eq, List.isEmpty_iff] at h
  rw [vin_eq, if_neg (by omega), h.2]
  rfl
end Un
open Un (vin)
theorem enters_coll : Enters 95 := fun _ _ => by kernel_rfl
set_option maxRecDepth 100000 in
set_option maxHeartbeats 3200000 in
theorem collect_any (N : Nat → Prop) (pa pf m L : Nat) (hL : L ≤ 1000000) (hNm : ¬ N m) (ha : pa ≠ m) (hp : pf ≠ m) : ∀ (n : Nat) (t : Ty), size t ≤ n → vin L t = true → ∀ (cs : List Value) (w : World) (lv : Int) (k : Nat) (f : Int → Option Int), TyV w N t cs →
    Blk w pa 99 #[.map (some m)] → Blk w pf 118 #[collF pa pf] → MapII w m k f → Bd f → 0 ≤ lv → lv + n ≤ 100000 → k + size t ≤ 1000000 →
    Calls Try.prog 95 #[.agg cs.toArray, .int .i64 lv, .pointer (some ⟨pa, 0, none⟩), .pointer (some ⟨pf, 0, none⟩)] w (CollP m (k + size t) (above t f lv) w) := by
  have hE : ∀ (args : Array Value) (w : World), (callFunc 95 args).run Try.prog w = .ok (.enter 95 args) w := enters_coll
  have HNM := Lib.hid hNm
  intro n
  induction n with
  | zero => intro t h; exact absurd (Un.size_pos t) (by omega)
  | succ n ih =>
    intro t hn hov cs w lv k f h hBa hBp hM hf hlv0 hlv hk
    obtain ⟨p, c, rfl, ha'⟩ := h.shape
    have HB := Lib.hid hBa
    have HBP := Lib.hid hBp
    have HM := Lib.hid hM
    have HFB := Lib.hid hf
    have b0 : w.cell? ⟨pa, 0, none⟩ = some (.map (some m)) := hBa.cell 0
    have b1 : w.cell? ⟨pf, 0, none⟩ = some (collF pa pf) := hBp.cell 0
    have bl : pa < w.heap.size := hBa.lt
    have pl : pf < w.heap.size := hBp.lt
    have hE1 := Un.above_eq t f lv
    have hov2 := hov
    rw [Un.vin_eq] at hov2
    by_cases h9 : kd t = 9
    · have e1 : (kd t == 9) = true := by simp [h9]
      rw [if_pos h9] at hE1 hov2
      simp only [Bool.and_eq_true, decide_eq_true_eq, List.isEmpty_iff] at hov2
      obtain ⟨⟨o0, o1⟩, o2⟩ := hov2
      have hb := hf.get (nm t)
      have hwk : (Lit.int .i64 (nm t)).wf = true := WalkArith.wf_i64 (by omega)
      have hwv : (Lit.int .i64 (max ((f (nm t)).getD 0) lv)).wf = true := WalkArith.wf_i64 (by omega)
      have HE1 := Lib.hid hE1
      have HSZ : Hid (1 ≤ size t) := Lib.hid (Un.size_pos t)
      have HBD : Hid (Bd (Un.upd f (nm t) (max ((f (nm t)).getD 0) lv))) := Lib.hid (hf.upd _ (by omega) (by omega))
      rw [o2] at ha' ⊢
      simp only [List.length_nil]
      have hF0 : Hid (Fr [m] w (w.alloc (.cells #[.int .i64 (kd t), .int .i64 (nm t), .slice p 0 c] 24))) := Lib.hid ((Fr.refl _ _).alloc _)
      have HM1 : Hid (MapII (w.alloc (.cells #[.int .i64 (kd t), .int .i64 (nm t), .slice p 0 c] 24)) m k f) := Lib.hid (hM.keep ((Fr.refl [] _).alloc _) (by simp))
      have hnew : w.heap.size ∉ [m] := by
        simp only [List.mem_singleton]
        have := hM.lt
        omega
      clear hE1 hov hn ih h hBa hBp hM hf ha' h9
      go_enter Try.func95, Try.ntmps95
      go_wp2_with (first | (at_lookup; refine wpList_look1_ii _ rfl _ _ 99 rfl Try.underlying99 _ _ f rfl HM1.out (nm t) rfl hwk ?_) | (at_mapUpdate; go_loud (refine wpList_put_ii _ rfl _ _ _ 99 rfl Try.underlying99 _ k f rfl HM1.out (by omega) (nm t) (max ((f (nm t)).getD 0) lv) rfl (by first | rfl | simp) hwk hwv ?_; intro w3 hM3 hf3; have HM3 := Lib.hid hM3; have HF3 := Lib.hid (hF0.out.trans hf3); have s0 : w3.cell? ⟨w.heap.size, 2, none⟩ = some (.slice p 0 c) := ((Blk.new w _ _).keep hf3 hnew).cell 2; have sl : w.heap.size < w3.heap.size := Nat.lt_of_lt_of_le (by simp) hf3.size; clear hM3 hf3)))
      clear s0 sl
      go_loopw [23] (fun x wr => x = .int .i64 0 ∧ Hid (MapII wr m (k + 1) (Un.upd f (nm t) (max ((f (nm t)).getD 0) lv))) ∧ Hid (Fr [m] w wr)) (fun _ _ => 0)
      case atStart => exact ⟨rfl, HM3, HF3⟩
      case round =>
        obtain ⟨rfl, HM4, HF4⟩ := hrel
        go_wp2_with fail
        go_end0
        rw [HE1.out]
        exact ⟨rfl, HM4.out.mono (by have := HSZ.out; omega), HBD.out, HF4.out⟩
    · have e1 : (kd t == 9) = false := by simp [h9]
      rw [if_neg h9] at hE1 hov2
      simp only [List.all_eq_true] at hov2
      have HE1 := Lib.hid hE1
      have HOV : Hid (∀ a ∈ ar t, vin L a = true) := Lib.hid hov2
      have HA := Lib.hid ha'
      have HSZ : Hid (size t = sizes (ar t) + 1) := Lib.hid (by cases t; rw [Un.size]; rfl)
      have IH : Hid (∀ a ∈ ar t, ∀ (cs : List Value) (w : World) (lv : Int) (k : Nat) (f : Int → Option Int), TyV w N a cs → Blk w pa 99 #[.map (some m)] → Blk w pf 118 #[collF pa pf] → MapII w m k f → Bd f → 0 ≤ lv → lv + n ≤ 100000 → k + size a ≤ 1000000 →
          Calls Try.prog 95 #[.agg cs.toArray, .int .i64 lv, .pointer (some ⟨pa, 0, none⟩), .pointer (some ⟨pf, 0, none⟩)] w (CollP m (k + size a) (above a f lv) w)) := Lib.hid fun a ha => ih a (by have := size_ar ha; omega) (hov2 a ha)
      have HN : Hid (size t ≤ n + 1) := Lib.hid hn
      obtain ⟨l, hl⟩ : ∃ l, l = ar t := ⟨_, rfl⟩
      rw [← hl] at HE1 HOV HA HSZ IH ⊢
      have hlm : l.length ≤ 100000 := by have h1 := HSZ.out; have h2 := HN.out; have h3 := Un.sizes_len l; omega
      have hF0 : Hid (Fr [m] w (w.alloc (.cells #[.int .i64 (kd t), .int .i64 (nm t), .slice p l.length c] 24))) := Lib.hid ((Fr.refl _ _).alloc _)
      have HM1 : Hid (MapII (w.alloc (.cells #[.int .i64 (kd t), .int .i64 (nm t), .slice p l.length c] 24)) m k f) := Lib.hid (hM.keep ((Fr.refl [] _).alloc _) (by simp))
      clear hE1 hov hov2 hn ih h hBa hBp hM hf ha' h9 hl b0 b1 bl pl
      go_enter Try.func95, Try.ntmps95
      go_wp2_with fail
      go_loopw [23] (fun x wr => ∃ j : Nat, x = .int .i64 j ∧ j ≤ l.length ∧ Hid (MapII wr m (k + sizes (l.take j)) (aboves (l.take j) f (lv + 1))) ∧ Hid (Bd (aboves (l.take j) f (lv + 1))) ∧ Hid (Fr [m] w wr)) (fun x _ => l.length - (RowKit.intOf x).toNat)
      case atStart => exact ⟨0, rfl, Nat.zero_le _, by rw [List.take_zero, Un.sizes, aboves]; exact HM1, by rw [List.take_zero, aboves]; exact HFB, hF0⟩
      case round =>
        obtain ⟨j, rfl, hj, HMR, HBR, HFR⟩ := hrel
        by_cases hlt : j < l.length
        · have hd2 : decide ((j : Int) < (l.length : Int)) = true := by simp; omega
          have hd3 : decide (j < l.length) = true := by simpa using hlt
          obtain ⟨b, o, rfl, hat⟩ : ∃ b o, p = some ⟨b, o, none⟩ ∧ TysAt w N l b o := by
            rcases HA.out.cases with ⟨rfl, _⟩ | ⟨_, b, o, cap, heq, _, _, hat⟩
            · simp at hlt
            · simp only [Value.slice.injEq] at heq
              exact ⟨b, o, heq.1, hat⟩
          obtain ⟨p1, c1, k1, hb, g0, g1, g2⟩ := hat.el HFR.out (by simpa using HNM.out) (List.getElem?_eq_getElem hlt)
          have K1 := Lib.hid k1
          have HSN := Lib.hid (Un.sizes_snoc hlt)
          have HST := Lib.hid (Un.sizes_take l (j + 1))
          have HAT := Lib.hid (Un.aboves_take hlt f (lv + 1))
          obtain ⟨x, hx⟩ : ∃ x, x = l[j] := ⟨_, rfl⟩
          have HMX : Hid (x ∈ l) := Lib.hid (by rw [hx]; exact List.getElem_mem _)
          rw [← hx] at g0 g1 g2 K1 HSN HAT
          have HBA2 := Lib.hid (HB.out.keep HFR.out (by simpa using ha))
          have HBP2 := Lib.hid (HBP.out.keep HFR.out (by simpa using hp))
          have b1 : wr.cell? ⟨pf, 0, none⟩ = some (.func (.func 95) #[] #[.pointer (some ⟨pa, 0, none⟩), .pointer (some ⟨pf, 0, none⟩)]) := HBP2.out.cell 0
          have pl : pf < wr.heap.size := HBP2.out.lt
          clear k1 hat hx
          go_wp2_with fail
          have hf0 : Fr [] wr (wr.alloc (.cells #[.int .i64 (kd x), .int .i64 (nm x), .slice p1 (ar x).length c1] 24)) := (Fr.refl _ _).alloc _
          refine ((IH.out x HMX.out _ _ (lv + 1) _ _ (K1.out.keep0 hf0) (HBA2.out.keep hf0 (by simp)) (HBP2.out.keep hf0 (by simp)) (HMR.out.keep hf0 (by simp)) HBR.out (by omega) (by omega) (by have h1 := HSN.out; have h2 := HST.out; have h3 := HSZ.out; omega)).mono ?_)
          rintro e w2 ⟨rfl, hM2, hB2, hf2⟩
          have HM2 := Lib.hid hM2
          have HB2 := Lib.hid hB2
          have HF2 := Lib.hid (HFR.out.trans ((hf0.nil [m]).trans hf2))
          clear hM2 hB2 hf2 hf0 b1 pl g0 g1 g2
          go_wp2_with fail
          go_roundw
          case rel => exact ⟨j + 1, by go_num, by omega, by rw [HSN.out, HAT.out, ← Nat.add_assoc]; exact HM2, by rw [HAT.out]; exact HB2, HF2⟩
          case measure => simp [RowKit.intOf]; omega
        · have hd2 : decide ((j : Int) < (l.length : Int)) = false := by simp; omega
          have hd3 : decide (j < l.length) = false := by simpa using hlt
          obtain rfl : j = l.length := by omega
          go_wp2_with fail
          go_end0
          rw [List.take_length] at HMR HBR
          rw [HE1.out]
          exact ⟨rfl, HMR.out.mono (by have := HSZ.out; omega), HBR.out, HFR.out⟩
end Go.Proofs.Ytkhbgdhgjbnhpaa
