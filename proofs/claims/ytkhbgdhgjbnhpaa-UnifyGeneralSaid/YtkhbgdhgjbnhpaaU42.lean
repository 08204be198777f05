/-
  The law's small functions, and what head's calls answer, plainly.
-/
import Derived.Test.YtkhbgdhgjbnhpaaU41
import Derived.Test.YtkhbgdhgjbnhpaaU32
set_option linter.unusedVariables false
set_option linter.unusedSimpArgs false
set_option linter.unusedSectionVars false
namespace Go.Proofs.Ytkhbgdhgjbnhpaa
open Go.RowKit Go.Lib
open Un (kd nm ar size sizes same sames int' box' zero var)

namespace Un
def par (i : Int) : Ty := .mk 5 i []
theorem h_wf : wf [zero, zero] = some true := by decide +kernel
theorem h_u1 : unify 2 (box' (var 0)) (box' int') = some (.ok [int', zero]) := by kernel_rfl
theorem h_u2 : unify 2 (var 0) (var 1) = some (.ok [zero, var 0]) := by kernel_rfl
theorem h_u3 : unify 2 (box' (var 0)) (.mk 4 0 [var 0]) = some (.error 8) := by kernel_rfl
theorem h_u4 : unify 2 (var 0) (box' (var 0)) = some (.error 8) := by kernel_rfl
theorem h_u5 : unify 2 (var 2) int' = some (.error 1) := by kernel_rfl
theorem h_m1 : matched 1 (box' (par 0)) (box' (box' int')) = some [box' int'] := by kernel_rfl
theorem h_m2 : matched 1 (box' (par 0)) int' = none := by kernel_rfl
theorem h_pars : pars (box' (par 0)) = [0] := by kernel_rfl
theorem h_v1 : valid [1] 0 (.mk 2 0 [int']) = true := by decide +kernel
theorem h_v2 : valid [1] 0 (par 0) = false := by decide +kernel
theorem h_v3 : valid [1] 1 (.mk 7 0 [par 0]) = true := by decide +kernel
theorem h_v4 : valid [1] 1 (box' (.mk 7 0 [par 0])) = false := by decide +kernel
theorem h_s : subst [int'] (box' (par 0)) = box' int' := by kernel_rfl
theorem h_a : applyTo [int', zero] (box' (var 0)) = some (box' int') := by kernel_rfl
end Un
/-- a type is handed back -/
def GivesTy (t : Ty) (w : World) (e : Ending) (w' : World) : Prop := Fr [] w w' ∧ ∃ p c, e = .returned (.agg #[.int .i64 (kd t), .int .i64 (nm t), .slice p (ar t).length c]) ∧ TyV w' (fun _ => True) t [.int .i64 (kd t), .int .i64 (nm t), .slice p (ar t).length c]
def GivesLeaf (k i : Int) (w : World) (e : Ending) (w' : World) : Prop := e = .returned (.agg #[.int .i64 k, .int .i64 i, .slice none 0 0]) ∧ Fr [] w w'
theorem leafV (k i : Int) (w : World) : TyV w (fun _ => True) (.mk k i []) [.int .i64 k, .int .i64 i, .slice none 0 0] := TyV.mk (TysV.nil _ _)
set_option maxHeartbeats 1600000 in
theorem v_any (n : Int) (w : World) : Calls Try.prog 30 #[.int .i64 n] w (GivesLeaf 9 n w) := by
  go_enter Try.func30, Try.ntmps30
  go_wp2_with fail
  exact bodyPost_ret (v := .agg #[.int .i64 9, .int .i64 n, .slice none 0 0]) (by simp [results, Try.results30, go_sem]) rfl ⟨rfl, (Fr.refl _ _).alloc _⟩
set_option maxHeartbeats 1600000 in
theorem p_any (n : Int) (w : World) : Calls Try.prog 23 #[.int .i64 n] w (GivesLeaf 5 n w) := by
  go_enter Try.func23, Try.ntmps23
  go_wp2_with fail
  exact bodyPost_ret (v := .agg #[.int .i64 5, .int .i64 n, .slice none 0 0]) (by simp [results, Try.results23, go_sem]) rfl ⟨rfl, (Fr.refl _ _).alloc _⟩
set_option maxHeartbeats 1600000 in
theorem int_any (w : World) : Calls Try.prog 32 #[] w (GivesLeaf 1 0 w) := by
  go_enter Try.func32, Try.ntmps32
  go_wp2_with fail
  exact bodyPost_ret (v := .agg #[.int .i64 1, .int .i64 0, .slice none 0 0]) (by simp [results, Try.results32, go_sem]) rfl ⟨rfl, (Fr.refl _ _).alloc _⟩
/-- a list of types that was just laid -/
theorem newTys {w' : World} {N : Nat → Prop} {l : List Ty} {xs : List Value} {b : Nat} (hl : l.length ≤ 1000) (hN : N b) (hb : Blk w' b 24 xs.toArray) (hq : InN w' N (rowsQ qTy l) xs) : TysV w' N l (.slice (some ⟨b, 0, none⟩) l.length l.length) := by
  unfold TysV
  rcases Nat.eq_zero_or_pos l.length with h0 | h0
  · have := List.eq_nil_of_length_eq_zero h0
    subst this
    exact InN.slNil _ _
  · rw [InN]
    refine ⟨_, _, rfl, .inr ⟨b, 0, l.length, xs, rfl, h0, Nat.le_refl _, by unfold maxLen; omega, hN, hb.lt, by rw [hq.len, rowsQ_ln ln_qTy], fun j hj => ?_, hq⟩, InN.mk_nil _ _⟩
    rw [Nat.zero_add]
    rw [show w'.cell? ⟨b, j, none⟩ = xs.toArray[j]? from Blk.cell hb j]
    simp
/-- a type is handed back, new or of N -/
def GivesN (N : Nat → Prop) (t : Ty) (w : World) (e : Ending) (w' : World) : Prop := Fr [] w w' ∧ ∃ p c, e = .returned (.agg #[.int .i64 (kd t), .int .i64 (nm t), .slice p (ar t).length c]) ∧ TyV w' (fun k => N k ∨ w.heap.size ≤ k) t [.int .i64 (kd t), .int .i64 (nm t), .slice p (ar t).length c]
set_option maxRecDepth 100000 in
set_option maxHeartbeats 1600000 in
theorem of_any (N : Nat → Prop) (k : Int) (t : Ty) (p : Option Addr) (n c : Nat) (w : World) (h : TyV w N t [.int .i64 (kd t), .int .i64 (nm t), .slice p n c]) : Calls Try.prog 34 #[.int .i64 k, .agg #[.int .i64 (kd t), .int .i64 (nm t), .slice p n c]] w (GivesN N (.mk k 0 [t]) w) := by
  have HT := Lib.hid h
  clear h
  go_enter Try.func34, Try.ntmps34
  go_wp2_with fail
  have hf : Fr [] w (((w.alloc (.cells #[.int .i64 (kd t), .int .i64 (nm t), .slice p n c] 24)).alloc (.cells #[.int .i64 k, .int .i64 0, .slice (some ⟨w.heap.size + 1 + 1, 0, none⟩) 1 1] 24)).alloc (.cells #[.int .i64 (kd t), .int .i64 (nm t), .slice p n c] 24)) := (((Fr.refl _ _).alloc _).alloc _).alloc _
  have hv := newTys (N := fun k => N k ∨ w.heap.size ≤ k) (l := [t]) (b := w.heap.size + 1 + 1) (xs := [.int .i64 (kd t), .int .i64 (nm t), .slice p n c]) (by simp) (.inr (by omega)) (Blk.new_at (w := (w.alloc (.cells #[.int .i64 (kd t), .int .i64 (nm t), .slice p n c] 24)).alloc (.cells #[.int .i64 k, .int .i64 0, .slice (some ⟨w.heap.size + 1 + 1, 0, none⟩) 1 1] 24)) (by simp)) (by rw [rowsQ_one]; exact InN.weak (InN.keep0 HT.out hf) (fun _ _ h => .inl h))
  exact bodyPost_ret (v := .agg #[.int .i64 k, .int .i64 0, .slice (some ⟨w.heap.size + 1 + 1, 0, none⟩) 1 1]) (by simp [results, Try.results34, go_sem]) rfl ⟨hf, _, _, rfl, TyV.mk hv⟩
set_option maxRecDepth 100000 in
set_option maxHeartbeats 1600000 in
theorem box_any (t : Ty) (p : Option Addr) (n c : Nat) (w : World) (h : TyV w (fun _ => True) t [.int .i64 (kd t), .int .i64 (nm t), .slice p n c]) : Calls Try.prog 33 #[.agg #[.int .i64 (kd t), .int .i64 (nm t), .slice p n c]] w (GivesTy (box' t) w) := by
  have HT := Lib.hid (TyV.weak (N' := fun k => k < w.heap.size) h (fun k hk _ => hk))
  clear h
  obtain ⟨w1, hw1⟩ : ∃ w1, w1 = (w.alloc (.cells #[.int .i64 (kd t), .int .i64 (nm t), .slice p n c] 24)).alloc (.cells #[.int .i64 0, .int .i64 0, .slice none 0 0] 24) := ⟨_, rfl⟩
  have HF1 : Hid (Fr [] w w1) := Lib.hid (by rw [hw1]; exact ((Fr.refl _ _).alloc _).alloc _)
  have HB1 : Hid (Blk w1 (w.heap.size + 1) 24 #[.int .i64 0, .int .i64 0, .slice none 0 0]) := Lib.hid (by rw [hw1]; exact Blk.new_at (by simp))
  go_enter Try.func33, Try.ntmps33
  go_wp2_with fail
  rw [← hw1]
  clear hw1
  refine (of_any _ 3 t p n c w1 (HT.out.keep0 HF1.out)).mono ?_
  rw [show (.mk 3 0 [t] : Ty) = box' t from rfl]
  rintro e w2 ⟨hf2, p2, c2, rfl, hty⟩
  have hl1 := HB1.out.lt
  have HTY := Lib.hid hty
  have HB2 := Lib.hid (HB1.out.keep hf2 (by simp))
  have HF2 := Lib.hid (HF1.out.trans hf2)
  clear hf2 hty
  have d0 := HB2.out.cell 0
  have d1 := HB2.out.cell 1
  have d2 := HB2.out.cell 2
  have f0 := HB2.out.frozen 0
  have f1 := HB2.out.frozen 1
  have f2 := HB2.out.frozen 2
  have fl := HB2.out.lt
  obtain ⟨K, I, L, hK, hI, hL⟩ : ∃ K I L, K = kd (box' t) ∧ I = nm (box' t) ∧ L = (ar (box' t)).length := ⟨_, _, _, rfl, rfl, rfl⟩
  have HK := Lib.hid hK
  have HI := Lib.hid hI
  have HL := Lib.hid hL
  rw [← hK, ← hI, ← hL] at HTY ⊢
  clear hK hI hL
  go_wp2_with fail
  have hbx := HB2.out.set3 (.int .i64 K) (.int .i64 I) (.slice p2 L c2)
  have e0 := hbx.cell 0
  have e1 := hbx.cell 1
  have e2 := hbx.cell 2
  have hf3 := HF2.out.set3 (b := w.heap.size + 1) (.inr (by omega)) (.int .i64 K) (.int .i64 I) (.slice p2 L c2)
  have ht3 := InN.mono (N' := fun _ => True) (w' := ((w2.setCell ⟨w.heap.size + 1, 0, none⟩ (.int .i64 K)).setCell ⟨w.heap.size + 1, 1, none⟩ (.int .i64 I)).setCell ⟨w.heap.size + 1, 2, none⟩ (.slice p2 L c2)) (fun k h1 h2 => ⟨trivial, by simpa [World.setCell] using h2, set3_block _ _ _ (by rcases h1 with h1 | h1 <;> omega)⟩) HTY.out
  refine bodyPost_ret (v := .agg #[.int .i64 K, .int .i64 I, .slice p2 L c2]) (by simp [results, Try.results33, go_sem, e0, e1, e2]) rfl ⟨hf3, p2, c2, by rw [HK.out, HI.out, HL.out], ?_⟩
  rw [← HK.out, ← HI.out, ← HL.out]
  exact ht3
/-- a type with one argument is handed back -/
def GivesOf (k : Int) (t : Ty) (w : World) (e : Ending) (w' : World) : Prop := Fr [] w w' ∧ ∃ p c, e = .returned (.agg #[.int .i64 k, .int .i64 0, .slice p 1 c]) ∧ TyV w' (fun _ => True) (.mk k 0 [t]) [.int .i64 k, .int .i64 0, .slice p 1 c]
theorem box_lit (t : Ty) (k i : Int) (p : Option Addr) (n c : Nat) (w : World) (h : TyV w (fun _ => True) t [.int .i64 k, .int .i64 i, .slice p n c]) : Calls Try.prog 33 #[.agg #[.int .i64 k, .int .i64 i, .slice p n c]] w (GivesOf 3 t w) := by
  obtain ⟨p', c', e, _⟩ := h.shape
  simp only [List.cons.injEq, Value.int.injEq, true_and, Value.slice.injEq, and_true] at e
  obtain ⟨rfl, rfl, rfl, rfl, rfl⟩ := e
  exact box_any t _ _ _ w h
theorem of_lit (q : Int) (t : Ty) (k i : Int) (p : Option Addr) (n c : Nat) (w : World) (h : TyV w (fun _ => True) t [.int .i64 k, .int .i64 i, .slice p n c]) : Calls Try.prog 34 #[.int .i64 q, .agg #[.int .i64 k, .int .i64 i, .slice p n c]] w (GivesOf q t w) := by
  obtain ⟨p', c', e, _⟩ := h.shape
  simp only [List.cons.injEq, Value.int.injEq, true_and, Value.slice.injEq, and_true] at e
  obtain ⟨rfl, rfl, rfl, rfl, rfl⟩ := e
  refine (of_any _ q t _ _ _ w h).mono ?_
  rintro e w' ⟨hf, p2, c2, rfl, hty⟩
  exact ⟨hf, p2, c2, rfl, TyV.weak hty (fun _ _ _ => trivial)⟩
theorem newInt (w : World) : TysV (w.alloc (.cells #[.int .i64 1, .int .i64 0, .slice none 0 0] 24)) (fun _ => True) [.mk 1 0 []] (.slice (some ⟨w.heap.size, 0, none⟩) 1 1) :=
  newTys (l := [.mk 1 0 []]) (by simp) trivial (Blk.new _ _ _) (by rw [rowsQ_one]; exact leafV 1 0 _)
theorem subst_lit (v : Value) (cs : List Value) (w : World) (hv : TysV w (fun _ => True) [.mk 1 0 []] v) (h : TyV w (fun _ => True) (.mk 3 0 [.mk 5 0 []]) cs) : Calls Try.prog 17 #[v, .agg cs.toArray] w (GivesOf 3 (.mk 1 0 []) w) := by
  refine (subst_any [int'] (box' (Un.par 0)) v cs w _ _ hv h (by decide +kernel) (fun u hu => by rw [List.mem_singleton] at hu; subst hu; decide +kernel)).mono ?_
  rw [Un.h_s]
  rintro e w' ⟨hf, ds, rfl, hty⟩
  obtain ⟨p, c, rfl, _⟩ := hty.shape
  exact ⟨hf, p, c, rfl, TyV.weak hty (fun _ _ _ => trivial)⟩
theorem apply_lit (v : Value) (cs : List Value) (w : World) (hv : TysV w (fun _ => True) [int', zero] v) (h : TyV w (fun _ => True) (.mk 3 0 [.mk 9 0 []]) cs) : Calls Try.prog 19 #[v, .agg cs.toArray] w (GivesOf 3 (.mk 1 0 []) w) := by
  refine (applyTo_any _ [int', zero] v (box' (var 0)) cs w hv (by decide) (by decide) (fun u hu => by simp only [List.mem_cons, List.not_mem_nil, or_false] at hu; rcases hu with rfl | rfl <;> decide +kernel) h (by decide +kernel) _ Un.h_a).mono ?_
  rintro e w' ⟨hf, ds, rfl, hty⟩
  obtain ⟨p, c, rfl, _⟩ := hty.shape
  exact ⟨hf, p, c, rfl, hty⟩
theorem rsame_lit (cs ds : List Value) (w : World) (h : TyV w (fun _ => True) (.mk 3 0 [.mk 1 0 []]) cs) (h' : TyV w (fun _ => True) (.mk 3 0 [.mk 1 0 []]) ds) : Calls Try.prog 16 #[.agg cs.toArray, .agg ds.toArray] w (LookP true w) := by
  have h1 := rsame_any _ _ (size (box' int')) (box' int') (Nat.le_refl _) (box' int') cs ds w h h'
  rwa [show same (box' int') (box' int') = true from by decide +kernel] at h1
end Go.Proofs.Ytkhbgdhgjbnhpaa
