/-
  The walk of Match's closure.
-/
import Derived.Test.YtkhbgdhgjbnhpaaU30
set_option linter.unusedVariables false
set_option linter.unusedSimpArgs false
set_option linter.unusedSectionVars false
namespace Go.Proofs.Ytkhbgdhgjbnhpaa
open Go.RowKit Go.Lib
open Un (kd nm ar size sizes same)

namespace Un
mutual
/-- a pattern is matched with a type; s: what was found -/
def mt (n : Int) : Ty → Ty → (Int → Option Ty) → (Int → Option Ty) × Bool
  | .mk k i al, t, s => if k = 5 then (match s i with
      | some e => (s, same e t)
      | none => ((fun j => if j = i then some t else s j), decide (0 ≤ i) && decide (i < n)))
    else if (k == kd t && i == nm t) then (if al.length = (ar t).length then mts n al (ar t) s else (s, false)) else (s, false)
def mts (n : Int) : List Ty → List Ty → (Int → Option Ty) → (Int → Option Ty) × Bool
  | [], _, s => (s, true)
  | _ :: _, [], s => (s, true)
  | a :: r, b :: r', s => if (mt n a b s).2 then mts n r r' (mt n a b s).1 else ((mt n a b s).1, false)
end
theorem mts_eq (n : Int) : ∀ (l l' : List Ty) (s : Int → Option Ty), mts n l l' s = eqS (fun s a b => mt n a b s) s l l'
  | [], _, s => by rw [mts, eqS]; intro _ _ _ _ h; cases h
  | _ :: _, [], s => by rw [mts, eqS]; intro _ _ _ _ _ h; cases h
  | a :: r, b :: r', s => by rw [mts, eqS, mts_eq n r r']
theorem mt_eq (n : Int) (p t : Ty) (s : Int → Option Ty) : mt n p t s = if kd p = 5 then (match s (nm p) with
      | some e => (s, same e t)
      | none => ((fun j => if j = nm p then some t else s j), decide (0 ≤ nm p) && decide (nm p < n)))
    else if (kd p == kd t && nm p == nm t) then eqF (fun s a b => mt n a b s) s (ar p) (ar t) else (s, false) := by
  cases p
  rw [mt]
  unfold eqF
  rw [← mts_eq]
  rfl
mutual
/-- the numbers of the parameters in a pattern -/
def pars : Ty → List Int
  | .mk k i al => if k = 5 then [i] else parss al
def parss : List Ty → List Int
  | [] => []
  | a :: r => pars a ++ parss r
end
theorem pars_eq (t : Ty) : pars t = if kd t = 5 then [nm t] else parss (ar t) := by cases t; rw [pars]; rfl
theorem pars_mem {a : Ty} {i : Int} : ∀ {l : List Ty}, a ∈ l → i ∈ pars a → i ∈ parss l
  | b :: r, h, hi => by
    rw [parss, List.mem_append]
    rcases List.mem_cons.1 h with rfl | h
    · exact .inl hi
    · exact .inr (pars_mem h hi)
end Un
open Un (mt pars)
/-- what was found, and the closure's own variables, in memory -/
structure FoundI (N : Nat → Prop) (K : List Int) (n : Int) (m pM pMap pPar : Nat) (s : Int → Option Ty) (w : World) : Prop where
  map : MapTy w N m K.length s
  keys : ∀ i, (s i).isSome = true → i ∈ K
  cM : Blk w pM 42 #[.func (.func 46) #[] #[.pointer (some ⟨pM, 0, none⟩), .pointer (some ⟨pMap, 0, none⟩), .pointer (some ⟨pPar, 0, none⟩)]]
  cMap : Blk w pMap 71 #[.map (some m)]
  cPar : Blk w pPar 3 #[.int .i64 n]
  ne : pM ≠ m ∧ pMap ≠ m ∧ pPar ≠ m
theorem FoundI.keep0 {N : Nat → Prop} {K : List Int} {n : Int} {m pM pMap pPar : Nat} {s : Int → Option Ty} {w w' : World} (h : FoundI N K n m pM pMap pPar s w) (hf : Fr [] w w') : FoundI N K n m pM pMap pPar s w' :=
  ⟨h.map.keep hf (by simp) (by simp), h.keys, h.cM.keep hf (by simp), h.cMap.keep hf (by simp), h.cPar.keep hf (by simp), h.ne⟩
theorem enters_match1 : Enters 46 := fun _ _ => by kernel_rfl
theorem caps3 (x y a b c : Value) : (#[x, y] ++ #[a, b, c] : Array Value) = #[x, y, a, b, c] := by simp
set_option maxRecDepth 100000 in
set_option maxHeartbeats 3200000 in
theorem match1_any (N : Nat → Prop) (K : List Int) (n : Int) (m pM pMap pPar : Nat) (hNm : ¬ N m) (hKl : K.length ≤ 100000) : ∀ (z : Nat) (a : Ty), size a ≤ z → (∀ i ∈ pars a, (Lit.int .i64 i).wf = true ∧ i ∈ K) → ∀ (b : Ty) (s : Int → Option Ty) (cs ds : List Value) (w : World), FoundI N K n m pM pMap pPar s w → TyV w N a cs → TyV w N b ds →
    Calls Try.prog 46 #[.agg cs.toArray, .agg ds.toArray, .pointer (some ⟨pM, 0, none⟩), .pointer (some ⟨pMap, 0, none⟩), .pointer (some ⟨pPar, 0, none⟩)] w (EqP [m] (FoundI N K n m pM pMap pPar) (mt n a b s) w) := by
  have HNM := Lib.hid hNm
  intro z
  induction z with
  | zero => intro a h; exact absurd (Un.size_pos a) (by omega)
  | succ z ih =>
    intro a hz hpar b s cs ds w hI ha hb
    have HI := Lib.hid hI
    have HA := Lib.hid ha
    have HB := Lib.hid hb
    obtain ⟨p, c, rfl, hax⟩ := ha.shape
    obtain ⟨p', c', rfl, hbx⟩ := hb.shape
    have HAX := Lib.hid hax
    have HBX := Lib.hid hbx
    have hE1 := Un.mt_eq n a b s
    rw [Un.pars_eq] at hpar
    obtain ⟨w1, hw1⟩ : ∃ w1, w1 = (w.alloc (.cells #[.int .i64 (kd a), .int .i64 (nm a), .slice p (ar a).length c] 24)).alloc (.cells #[.int .i64 (kd b), .int .i64 (nm b), .slice p' (ar b).length c'] 24) := ⟨_, rfl⟩
    have HF0 : Hid (Fr [] w w1) := Lib.hid (by rw [hw1]; exact ((Fr.refl _ _).alloc _).alloc _)
    have HB0 : Hid (Blk w1 w.heap.size 24 #[.int .i64 (kd a), .int .i64 (nm a), .slice p (ar a).length c]) := Lib.hid (by rw [hw1]; exact (Blk.new _ _ _).alloc _)
    have HB1 : Hid (Blk w1 (w.heap.size + 1) 24 #[.int .i64 (kd b), .int .i64 (nm b), .slice p' (ar b).length c']) := Lib.hid (by rw [hw1]; exact Blk.new_at (by simp))
    by_cases h5 : kd a = 5
    · have e1 : (kd a != 5) = false := by simp [h5]
      rw [if_pos h5] at hE1 hpar
      obtain ⟨hwf, hkK⟩ := hpar (nm a) (by simp)
      subst hw1
      have HI1 := Lib.hid (HI.out.keep0 HF0.out)
      have q2 : w.cell? ⟨pMap, 0, none⟩ = some (.map (some m)) := HI.out.cMap.cell 0
      have l2 : pMap < w.heap.size := HI.out.cMap.lt
      have l21 : pMap < w.heap.size + 1 := by omega
      have l22 : pMap < w.heap.size + 1 + 1 := by omega
      rcases hs : s (nm a) with _ | e0
      · rw [hs] at hE1
        simp only at hE1
        have HE1 := Lib.hid hE1
        have HKK := Lib.hid hkK
        clear hI ha hb hax hbx ih hz hpar hE1 h5 hkK
        cases e2 : decide (0 ≤ nm a) with
        | false =>
          have E2 := Lib.hid e2
          go_enter Try.func46, Try.ntmps46
          go_wp2_with (first | (at_lookup; refine wpList_look_none _ rfl _ _ 71 rfl Try.underlying71 N m K.length s rfl HI1.out.map (nm a) rfl hwf hs ?_) | (at_mapUpdate; go_loud (refine wpList_put_ty _ rfl _ _ _ 71 rfl Try.underlying71 N m K.length s rfl (HI1.out.keep0 ((Fr.refl _ _).alloc _)).map (by omega) (nm a) b [.int .i64 (kd b), .int .i64 (nm b), .slice p' (ar b).length c'] rfl rfl hwf (HB.out.keep0 (HF0.out.alloc _)) hNm ?_; intro w3 hM3 hf3; have HM3 := Lib.hid hM3; have HF3 := Lib.hid hf3; have HF30 := Lib.hid (((HF0.out.alloc (.cells #[.int .i64 0, .int .i64 0, .slice none 0 0] 24)).nil [m]).trans hf3); have hnew : w.heap.size ∉ [m] := (by simp only [List.mem_singleton]; have := HI.out.map.lt; omega); have HBB := Lib.hid ((HB0.out.alloc (.cells #[.int .i64 0, .int .i64 0, .slice none 0 0] 24)).keep hf3 hnew); have HCP := Lib.hid (HI.out.cPar.keep HF30.out (by simpa using HI.out.ne.2.2)); clear hM3 hf3 hnew; have s1 : w3.cell? ⟨w.heap.size, 1, none⟩ = some (.int .i64 (nm a)) := HBB.out.cell 1; have sl : w.heap.size < w3.heap.size := HBB.out.lt; have r1 : w3.cell? ⟨pPar, 0, none⟩ = some (.int .i64 n) := HCP.out.cell 0; have rl : pPar < w3.heap.size := HCP.out.lt)))
          go_ret
          unfold EqP
          rw [HE1.out, E2.out]
          refine ⟨rfl, HF30.out, ⟨HM3.out.bound K (fun i hi => ?_), fun i hi => ?_, HI.out.cM.keep HF30.out (by simpa using HI.out.ne.1), HI.out.cMap.keep HF30.out (by simpa using HI.out.ne.2.1), HCP.out, HI.out.ne⟩⟩
          · by_cases e : i = nm a
            · rw [e]; exact HKK.out
            · exact HI.out.keys i (by simpa [e] using hi)
          · by_cases e : i = nm a
            · rw [e]; exact HKK.out
            · exact HI.out.keys i (by simpa [e] using hi)
        | true =>
          have E2 := Lib.hid e2
          go_enter Try.func46, Try.ntmps46
          go_wp2_with (first | (at_lookup; refine wpList_look_none _ rfl _ _ 71 rfl Try.underlying71 N m K.length s rfl HI1.out.map (nm a) rfl hwf hs ?_) | (at_mapUpdate; go_loud (refine wpList_put_ty _ rfl _ _ _ 71 rfl Try.underlying71 N m K.length s rfl (HI1.out.keep0 ((Fr.refl _ _).alloc _)).map (by omega) (nm a) b [.int .i64 (kd b), .int .i64 (nm b), .slice p' (ar b).length c'] rfl rfl hwf (HB.out.keep0 (HF0.out.alloc _)) hNm ?_; intro w3 hM3 hf3; have HM3 := Lib.hid hM3; have HF3 := Lib.hid hf3; have HF30 := Lib.hid (((HF0.out.alloc (.cells #[.int .i64 0, .int .i64 0, .slice none 0 0] 24)).nil [m]).trans hf3); have hnew : w.heap.size ∉ [m] := (by simp only [List.mem_singleton]; have := HI.out.map.lt; omega); have HBB := Lib.hid ((HB0.out.alloc (.cells #[.int .i64 0, .int .i64 0, .slice none 0 0] 24)).keep hf3 hnew); have HCP := Lib.hid (HI.out.cPar.keep HF30.out (by simpa using HI.out.ne.2.2)); clear hM3 hf3 hnew; have s1 : w3.cell? ⟨w.heap.size, 1, none⟩ = some (.int .i64 (nm a)) := HBB.out.cell 1; have sl : w.heap.size < w3.heap.size := HBB.out.lt; have r1 : w3.cell? ⟨pPar, 0, none⟩ = some (.int .i64 n) := HCP.out.cell 0; have rl : pPar < w3.heap.size := HCP.out.lt)))
          go_ret
          unfold EqP
          rw [HE1.out, E2.out]
          refine ⟨rfl, HF30.out, ⟨HM3.out.bound K (fun i hi => ?_), fun i hi => ?_, HI.out.cM.keep HF30.out (by simpa using HI.out.ne.1), HI.out.cMap.keep HF30.out (by simpa using HI.out.ne.2.1), HCP.out, HI.out.ne⟩⟩
          · by_cases e : i = nm a
            · rw [e]; exact HKK.out
            · exact HI.out.keys i (by simpa [e] using hi)
          · by_cases e : i = nm a
            · rw [e]; exact HKK.out
            · exact HI.out.keys i (by simpa [e] using hi)
      · rw [hs] at hE1
        simp only at hE1
        have HE1 := Lib.hid hE1
        clear hI ha hb hax hbx ih hz hpar hE1 h5 hkK
        go_enter Try.func46, Try.ntmps46
        go_wp2_with (at_lookup; go_loud (refine wpList_look_some _ rfl _ _ 71 rfl Try.underlying71 N m K.length s rfl HI1.out.map (nm a) rfl hwf e0 hs ?_; intro p5 c5 hTe; have HTE := Lib.hid hTe; clear hTe))
        refine (same_any N N (size e0) e0 (Nat.le_refl _) b _ _ _ (HTE.out.keep0 ((Fr.refl _ _).alloc _)) (HB.out.keep0 (HF0.out.alloc _))).mono ?_
        rintro e w2 ⟨rfl, hf2⟩
        have HF2 := Lib.hid ((HF0.out.alloc (.cells #[.int .i64 (kd e0), .int .i64 (nm e0), .slice p5 (ar e0).length c5] 24)).trans hf2)
        clear hf2
        go_wp2_with fail
        go_ret
        unfold EqP
        rw [HE1.out]
        exact ⟨rfl, HF2.out.nil _, HI.out.keep0 HF2.out⟩
    · have e1 : (kd a != 5) = true := by simp [h5]
      rw [if_neg h5] at hE1 hpar
      have HC : Hid (∀ (s : Int → Option Ty) (w : World), FoundI N K n m pM pMap pPar s w → TysV w N (ar a) (.slice p (ar a).length c) → TysV w N (ar b) (.slice p' (ar b).length c') → Calls Try.prog 48 #[.slice p (ar a).length c, .slice p' (ar b).length c', .func (.func 46) #[] #[.pointer (some ⟨pM, 0, none⟩), .pointer (some ⟨pMap, 0, none⟩), .pointer (some ⟨pPar, 0, none⟩)]] w (EqP [m] (FoundI N K n m pM pMap pPar) (eqF (fun s a b => mt n a b s) s (ar a) (ar b)) w)) := Lib.hid (fun s w hI h1 h2 =>
        equalfunc_any 46 #[.pointer (some ⟨pM, 0, none⟩), .pointer (some ⟨pMap, 0, none⟩), .pointer (some ⟨pPar, 0, none⟩)] [m] N N (FoundI N K n m pM pMap pPar) (fun s a b => mt n a b s) enters_match1 (by simpa using hNm) (by simpa using hNm) (fun s w w' h hf => h.keep0 hf) (ar a) (ar b)
          (fun x hx y hy s cs ds w hI hx' hy' => by
            rw [caps3]
            exact ih x (by have := size_ar hx; omega) (fun i hi => hpar i (Un.pars_mem hx hi)) y s cs ds w hI hx' hy') _ _ s w hI h1 h2)
      have HE1 := Lib.hid hE1
      clear hI ha hb hax hbx ih hz hpar hE1 h5
      cases hsh : (kd a == kd b && nm a == nm b) with
      | false =>
        have HSH := Lib.hid hsh
        clear hsh
        go_enter Try.func46, Try.ntmps46
        go_wp2_with fail
        rw [← hw1]
        clear hw1
        refine (samehead_any a b _ _ w1 N N (HA.out.keep0 HF0.out) (HB.out.keep0 HF0.out)).mono ?_
        rintro e w2 ⟨rfl, hf2⟩
        rw [HSH.out]
        have HF2 := Lib.hid (HF0.out.trans hf2)
        clear hf2
        go_wp2_with fail
        go_ret
        unfold EqP
        rw [HE1.out, HSH.out]
        exact ⟨rfl, HF2.out.nil _, HI.out.keep0 HF2.out⟩
      | true =>
        have HSH := Lib.hid hsh
        clear hsh
        go_enter Try.func46, Try.ntmps46
        go_wp2_with fail
        rw [← hw1]
        clear hw1
        refine (samehead_any a b _ _ w1 N N (HA.out.keep0 HF0.out) (HB.out.keep0 HF0.out)).mono ?_
        rintro e w2 ⟨rfl, hf2⟩
        rw [HSH.out]
        have HF2 := Lib.hid (HF0.out.trans hf2)
        have HB02 := Lib.hid (HB0.out.keep hf2 (by simp))
        have HB12 := Lib.hid (HB1.out.keep hf2 (by simp))
        have HI2 := Lib.hid (HI.out.keep0 HF2.out)
        clear hf2
        have s2 : w2.cell? ⟨w.heap.size, 2, none⟩ = some (.slice p (ar a).length c) := HB02.out.cell 2
        have t2 : w2.cell? ⟨w.heap.size + 1, 2, none⟩ = some (.slice p' (ar b).length c') := HB12.out.cell 2
        have q2 : w2.cell? ⟨pM, 0, none⟩ = some (.func (.func 46) #[] #[.pointer (some ⟨pM, 0, none⟩), .pointer (some ⟨pMap, 0, none⟩), .pointer (some ⟨pPar, 0, none⟩)]) := HI2.out.cM.cell 0
        have l0 : w.heap.size + 1 < w2.heap.size := HB12.out.lt
        have l1 : w.heap.size < w2.heap.size := HB02.out.lt
        have l2 : pM < w2.heap.size := HI2.out.cM.lt
        go_wp2_with fail
        refine (HC.out s w2 HI2.out (HAX.out.keep0 HF2.out) (HBX.out.keep0 HF2.out)).mono ?_
        rintro e w3 ⟨rfl, hf3, hI3⟩
        have HF3 := Lib.hid ((HF2.out.nil [m]).trans hf3)
        have HI3 := Lib.hid hI3
        clear hf3 hI3 s2 t2 q2 l0 l1 l2
        go_wp2_with fail
        go_ret
        unfold EqP
        rw [HE1.out, HSH.out]
        exact ⟨rfl, HF3.out, HI3.out⟩
end Go.Proofs.Ytkhbgdhgjbnhpaa
