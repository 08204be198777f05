/-
  The walks of Subst, sameHead, same.
-/
import Derived.Test.YtkhbgdhgjbnhpaaU7
set_option linter.unusedVariables false
set_option linter.unusedSimpArgs false
set_option linter.unusedSectionVars false
namespace Go.Proofs.Ytkhbgdhgjbnhpaa
open Go.RowKit Go.Lib
open Un (kd nm ar size sizes mapT subst rep)

/-- a later world, in which what there was lies as it did -/
def Lat (w1 w : World) : Prop := w1.heap.size ≤ w.heap.size ∧ ∀ k, k < w1.heap.size → w.heap[k]? = w1.heap[k]?
theorem Lat.refl (w : World) : Lat w w := ⟨Nat.le_refl _, fun _ _ => rfl⟩
theorem Lat.fr {w1 w w' : World} (h : Lat w1 w) (hf : Fr [] w w') : Lat w1 w' := ⟨Nat.le_trans h.1 hf.size, fun k hk => (hf.block k (Nat.lt_of_lt_of_le hk h.1) (by simp)).trans (h.2 k hk)⟩
theorem Fr.lat {w w' : World} (hf : Fr [] w w') : Lat w w' := (Lat.refl w).fr hf
theorem InN.lat {w1 w : World} {N : Nat → Prop} {q : Q} {cs : List Value} (h : InN w1 N q cs) (hl : Lat w1 w) : InN w N q cs := h.mono (fun k hN hk => ⟨hN, Nat.lt_of_lt_of_le hk hl.1, hl.2 k hk⟩)
theorem TysV.lat {w1 w : World} {N : Nat → Prop} {l : List Ty} {v : Value} (h : TysV w1 N l v) (hl : Lat w1 w) : TysV w N l v := InN.lat h hl
theorem TyV.lat {w1 w : World} {N : Nat → Prop} {t : Ty} {cs : List Value} (h : TyV w1 N t cs) (hl : Lat w1 w) : TyV w N t cs := InN.lat h hl
theorem Blk.lat {w1 w : World} {b T : Nat} {cs : Array Value} (h : Blk w1 b T cs) (hl : Lat w1 w) : Blk w b T cs := (hl.2 b h.lt).trans h
theorem kept_lat (w1 : World) (N : Nat → Prop) : Kept w1.heap.size [] N (fun (_ : Unit) (w : World) => Lat w1 w) :=
  ⟨fun _ w w' h hs hb => ⟨Nat.le_trans h.1 hs, fun k hk => (hb k hk).trans (h.2 k hk)⟩, fun _ _ h => h.1, (by simp), (by simp)⟩
theorem two_args (x y : Value) : (#[x] ++ #[y] : Array Value) = #[x, y] := by simp
theorem enters_subst1 : Enters 53 := fun _ _ => by kernel_rfl
theorem rep_none {l : List Ty} {a : Ty} (h : ¬ (kd a = 5 ∧ 0 ≤ nm a ∧ nm a < l.length)) : rep l a = none := by unfold rep; rw [if_neg h]
theorem rep_some {l : List Ty} {a : Ty} {n : Nat} (h : kd a = 5) (hn : nm a = n) (hl : n < l.length) : rep l a = some l[n] := by
  unfold rep
  rw [if_pos ⟨h, by omega, by omega⟩, hn]
  exact List.getElem?_eq_getElem hl
set_option maxHeartbeats 1600000 in
theorem subst1_no (l : List Ty) (a : Ty) (cs : List Value) (w w1 : World) (N N' : Nat → Prop) (v : Value) (B : Nat) (hL : Lat w1 w) (hB : Blk w1 B 22 #[v]) (hv : TysV w1 N' l v) (h : TyV w N a cs) (hno : ¬ (kd a = 5 ∧ 0 ≤ nm a ∧ nm a < l.length)) :
    Calls Try.prog 53 #[.agg cs.toArray, .pointer (some ⟨B, 0, none⟩)] w (StepP [] (fun (_ : Unit) (w : World) => Lat w1 w) ((), rep l a) w) := by
  obtain ⟨p, c, rfl, _⟩ := h.shape
  obtain ⟨pv, cv, rfl⟩ := hv.shape
  have hlm := hv.len
  unfold maxLen at hlm
  have HB := Lib.hid (hB.lat hL)
  have HL := Lib.hid hL
  have HR := Lib.hid (rep_none hno)
  have HD : Hid (StepP [] (fun (_ : Unit) (w : World) => Lat w1 w) ((), rep l a) w (.returned (.tuple #[.agg #[.int .i64 0, .int .i64 0, .slice none 0 0], .bool false])) ((w.alloc (.cells #[.int .i64 (kd a), .int .i64 (nm a), .slice p (ar a).length c] 24)).alloc (.cells #[.int .i64 0, .int .i64 0, .slice none 0 0] 24))) := by
    have hf : Fr [] w ((w.alloc (.cells #[.int .i64 (kd a), .int .i64 (nm a), .slice p (ar a).length c] 24)).alloc (.cells #[.int .i64 0, .int .i64 0, .slice none 0 0] 24)) := ((Fr.refl _ _).alloc _).alloc _
    rw [HR.out]
    exact Lib.hid ⟨hf, hL.fr hf, .inl ⟨rfl, rfl⟩⟩
  have hbl : B < w.heap.size := HB.out.lt
  have b0 : w.cell? ⟨B, 0, none⟩ = some (.slice pv l.length cv) := HB.out.cell 0
  clear hL hB hv h
  by_cases h1 : kd a = 5
  · have e1 : (kd a != 5) = false := by simp [h1]
    by_cases h2 : nm a < 0
    · have e2 : decide (nm a < 0) = true := by simpa using h2
      clear h1 hno
      go_enter Try.func53, Try.ntmps53
      go_wp2_with fail
      exact bodyPost_ret (v := .tuple #[.agg #[.int .i64 0, .int .i64 0, .slice none 0 0], .bool false]) (by simp [results, Try.results53, go_sem]) rfl HD.out
    · have e2 : decide (nm a < 0) = false := by simpa using h2
      have e3 : decide ((l.length : Int) ≤ nm a) = true := by simp; omega
      clear h1 hno
      go_enter Try.func53, Try.ntmps53
      go_wp2_with fail
      exact bodyPost_ret (v := .tuple #[.agg #[.int .i64 0, .int .i64 0, .slice none 0 0], .bool false]) (by simp [results, Try.results53, go_sem]) rfl HD.out
  · have e1 : (kd a != 5) = true := by simp [h1]
    clear h1 hno
    go_enter Try.func53, Try.ntmps53
    go_wp2_with fail
    exact bodyPost_ret (v := .tuple #[.agg #[.int .i64 0, .int .i64 0, .slice none 0 0], .bool false]) (by simp [results, Try.results53, go_sem]) rfl HD.out
set_option maxRecDepth 100000 in
set_option maxHeartbeats 1600000 in
theorem subst1_yes (l : List Ty) (a : Ty) (cs : List Value) (w w1 : World) (N N' : Nat → Prop) (v : Value) (B n : Nat) (hL : Lat w1 w) (hB : Blk w1 B 22 #[v]) (hv : TysV w1 N' l v) (h : TyV w N a cs) (h5 : kd a = 5) (hnm : nm a = n) (hnl : n < l.length) (hsz : ∀ u ∈ l, size u ≤ 100000) :
    Calls Try.prog 53 #[.agg cs.toArray, .pointer (some ⟨B, 0, none⟩)] w (StepP [] (fun (_ : Unit) (w : World) => Lat w1 w) ((), rep l a) w) := by
  obtain ⟨p, c, rfl, _⟩ := h.shape
  have HR := Lib.hid (rep_some h5 hnm hnl)
  have HB := Lib.hid (hB.lat hL)
  have HL := Lib.hid hL
  rcases (hv.lat hL).cases with ⟨rfl, _⟩ | ⟨_, b, o, cap, rfl, hc, hm, hat⟩
  · simp at hnl
  have hlm := hv.len
  unfold maxLen at hlm hm
  obtain ⟨p1, c1, k1, hb, g0, g1, g2⟩ := hat.el (Fr.refl [] w) (by simp) (List.getElem?_eq_getElem hnl)
  obtain ⟨u, hu⟩ : ∃ u, u = l[n] := ⟨_, rfl⟩
  rw [← hu] at g0 g1 g2 k1 HR
  have K1 := Lib.hid k1
  have HSU : Hid (size u ≤ 100000) := Lib.hid (by rw [hu]; exact hsz _ (List.getElem_mem _))
  have hbl : B < w.heap.size := HB.out.lt
  have b0 : w.cell? ⟨B, 0, none⟩ = some (.slice (some ⟨b, o, none⟩) l.length cap) := HB.out.cell 0
  have e3 : decide ((l.length : Int) ≤ (n : Int)) = false := by simp; omega
  have e4 : decide (n < l.length) = true := by simpa using hnl
  have e2 : decide ((n : Int) < 0) = false := by simp
  rw [h5, hnm]
  clear hL hB hv h hat k1 hu h5 hnm hsz
  go_enter Try.func53, Try.ntmps53
  go_wp2_with fail
  obtain ⟨w2, hw2⟩ : ∃ w2, w2 = (w.alloc (.cells #[.int .i64 5, .int .i64 n, .slice p (ar a).length c] 24)).alloc (.cells #[.int .i64 0, .int .i64 0, .slice none 0 0] 24) := ⟨_, rfl⟩
  have HB1 : Hid (Blk w2 (w.heap.size + 1) 24 #[.int .i64 0, .int .i64 0, .slice none 0 0]) := Lib.hid (by rw [hw2]; exact Blk.new_at (by simp))
  have HF0 : Hid (Fr [] w w2) := Lib.hid (by rw [hw2]; exact ((Fr.refl _ _).alloc _).alloc _)
  rw [← hw2]
  clear hw2 g0 g1 g2 b0
  refine (copied_any u _ w2 N' (K1.out.keep0 HF0.out) HSU.out).mono ?_
  rintro e w3 ⟨hf3, ds, rfl, hty⟩
  obtain ⟨p2, c2, rfl, _⟩ := hty.shape
  have HBs := HB1.out.keep hf3 (by simp)
  have hbl1 : w.heap.size + 1 < w2.heap.size := HB1.out.lt
  obtain ⟨q1, q2⟩ := NewP.stored (b := w.heap.size + 1) (by omega) hbl1 HBs (HF0.out.trans hf3) hty
  have Q2 := Lib.hid q2
  have c0 : w3.cell? ⟨w.heap.size + 1, 0, none⟩ = some (.int .i64 0) := HBs.cell 0
  have c1 : w3.cell? ⟨w.heap.size + 1, 1, none⟩ = some (.int .i64 0) := HBs.cell 1
  have c2' : w3.cell? ⟨w.heap.size + 1, 2, none⟩ = some (.slice none 0 0) := HBs.cell 2
  have f0 : w3.frozen? ⟨w.heap.size + 1, 0, none⟩ = false := HBs.frozen 0
  have f1 : w3.frozen? ⟨w.heap.size + 1, 1, none⟩ = false := HBs.frozen 1
  have f2 : w3.frozen? ⟨w.heap.size + 1, 2, none⟩ = false := HBs.frozen 2
  have hle : w.heap.size + 1 < w3.heap.size := HBs.lt
  have D0 := Lib.hid (q1.cell 0)
  have D1 := Lib.hid (q1.cell 1)
  have D2 := Lib.hid (q1.cell 2)
  clear q1 q2 HBs hf3 hty
  go_wp2_with fail
  have d0 := D0.out
  have d1 := D1.out
  have d2 := D2.out
  refine bodyPost_ret (v := .tuple #[.agg #[.int .i64 (kd u), .int .i64 (nm u), .slice p2 (ar u).length c2], .bool true]) (by simp [results, Try.results53, go_sem, d0, d1, d2]) rfl ?_
  obtain ⟨z1, zs, z2, z3⟩ := Q2.out
  refine ⟨z1, HL.out.fr z1, .inr ⟨u, _, HR.out, rfl, ?_⟩⟩
  cases z2
  exact z3
theorem subst1_any (l : List Ty) (a : Ty) (cs : List Value) (w w1 : World) (N N' : Nat → Prop) (v : Value) (B : Nat) (hL : Lat w1 w) (hB : Blk w1 B 22 #[v]) (hv : TysV w1 N' l v) (h : TyV w N a cs) (hsz : ∀ u ∈ l, size u ≤ 100000) :
    Calls Try.prog 53 #[.agg cs.toArray, .pointer (some ⟨B, 0, none⟩)] w (StepP [] (fun (_ : Unit) (w : World) => Lat w1 w) ((), rep l a) w) := by
  by_cases hno : kd a = 5 ∧ 0 ≤ nm a ∧ nm a < l.length
  · exact subst1_yes l a cs w w1 N N' v B (nm a).toNat hL hB hv h hno.1 (by omega) (by omega) hsz
  · exact subst1_no l a cs w w1 N N' v B hL hB hv h hno
set_option maxRecDepth 100000 in
set_option maxHeartbeats 1600000 in
/-- E1 -/
theorem subst_any (l : List Ty) (t : Ty) (v : Value) (cs : List Value) (w : World) (N N' : Nat → Prop) (hv : TysV w N' l v) (h : TyV w N t cs) (hs : size t ≤ 100000) (hsz : ∀ u ∈ l, size u ≤ 100000) :
    Calls Try.prog 17 #[v, .agg cs.toArray] w (NewP (subst l t) w) := by
  obtain ⟨p, c, rfl, _⟩ := h.shape
  obtain ⟨pv, cv, rfl⟩ := hv.shape
  obtain ⟨w1, hw1⟩ : ∃ w1, w1 = ((w.alloc (.cells #[.slice pv l.length cv] 22)).alloc (.cells #[.int .i64 (kd t), .int .i64 (nm t), .slice p (ar t).length c] 24)).alloc (.cells #[.int .i64 0, .int .i64 0, .slice none 0 0] 24) := ⟨_, rfl⟩
  have HF0 : Hid (Fr [] w w1) := Lib.hid (by rw [hw1]; exact (((Fr.refl _ _).alloc _).alloc _).alloc _)
  have HBv : Hid (Blk w1 w.heap.size 22 #[.slice pv l.length cv]) := Lib.hid (by rw [hw1]; exact ((Blk.new _ _ _).alloc _).alloc _)
  have HB1 : Hid (Blk w1 (w.heap.size + 1 + 1) 24 #[.int .i64 0, .int .i64 0, .slice none 0 0]) := Lib.hid (by rw [hw1]; exact Blk.new_at (by simp))
  have HV := Lib.hid (hv.keep0 HF0.out)
  have HM : Hid (Calls Try.prog 52 #[.agg #[.int .i64 (kd t), .int .i64 (nm t), .slice p (ar t).length c], .func (.func 53) #[] #[.pointer (some ⟨w.heap.size, 0, none⟩)]] w1 (NewP (subst l t) w1)) :=
    Lib.hid ((mapped_any 53 #[.pointer (some ⟨w.heap.size, 0, none⟩)] w1.heap.size [] N (fun (_ : Unit) (w : World) => Lat w1 w) (fun s a => some (s, rep l a)) enters_subst1 (kept_lat w1 N) (size t) t (Nat.le_refl _) hs
      (fun a _ s cs wx r hI ht hr => by cases hr; rw [two_args]; exact subst1_any l a cs wx w1 N N' _ w.heap.size hI HBv.out HV.out ht hsz) () _ w1 ((), subst l t) (Lat.refl w1) (h.keep0 HF0.out) (by rw [mapS_pure]; rfl)).mono (fun e w' hp => hp.new))
  have hlm := hv.len
  unfold maxLen at hlm
  clear h hv hs hsz
  go_enter Try.func17, Try.ntmps17
  go_wp2_with fail
  rw [← hw1]
  clear hw1
  refine HM.out.mono ?_
  rintro e w2 ⟨hf2, ds, rfl, hty⟩
  obtain ⟨p2, c2, rfl, _⟩ := hty.shape
  have HBs := HB1.out.keep hf2 (by simp)
  have hbl : w.heap.size + 1 + 1 < w1.heap.size := HB1.out.lt
  obtain ⟨q1, q2⟩ := NewP.stored (b := w.heap.size + 1 + 1) (by omega) hbl HBs (HF0.out.trans hf2) hty
  have Q2 := Lib.hid q2
  have c0 : w2.cell? ⟨w.heap.size + 1 + 1, 0, none⟩ = some (.int .i64 0) := HBs.cell 0
  have c1 : w2.cell? ⟨w.heap.size + 1 + 1, 1, none⟩ = some (.int .i64 0) := HBs.cell 1
  have c2' : w2.cell? ⟨w.heap.size + 1 + 1, 2, none⟩ = some (.slice none 0 0) := HBs.cell 2
  have f0 : w2.frozen? ⟨w.heap.size + 1 + 1, 0, none⟩ = false := HBs.frozen 0
  have f1 : w2.frozen? ⟨w.heap.size + 1 + 1, 1, none⟩ = false := HBs.frozen 1
  have f2 : w2.frozen? ⟨w.heap.size + 1 + 1, 2, none⟩ = false := HBs.frozen 2
  have hle : w.heap.size + 1 + 1 < w2.heap.size := HBs.lt
  have D0 := Lib.hid (q1.cell 0)
  have D1 := Lib.hid (q1.cell 1)
  have D2 := Lib.hid (q1.cell 2)
  clear q1 q2 HBs hf2 hty
  go_wp2_with fail
  have d0 := D0.out
  have d1 := D1.out
  have d2 := D2.out
  exact bodyPost_ret (v := .agg #[.int .i64 (kd (subst l t)), .int .i64 (nm (subst l t)), .slice p2 (ar (subst l t)).length c2]) (by simp [results, Try.results17, go_sem, d0, d1, d2]) rfl Q2.out
end Go.Proofs.Ytkhbgdhgjbnhpaa
