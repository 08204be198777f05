/-
  Before unified: a type appended to a full list; a substitution's copy apart from a block.
-/
import Derived.Test.YtkhbgdhgjbnhpaaU37
set_option linter.unusedVariables false
set_option linter.unusedSimpArgs false
set_option linter.unusedSectionVars false
namespace Go.Proofs.Ytkhbgdhgjbnhpaa
open Go.RowKit Go.Lib
open Un (kd nm ar size sizes)

/-- a type is appended to a list that has no room -/
theorem run_append_full (w : World) (ty : Nat) (N : Nat → Prop) (l : List Ty) (t : Ty) (b o : Nat) (hat : TysAt w N l b o) (hl : l.length ≤ 100000) (ad : Addr) (c : Nat) (d0 d1 d2 : Value)
    (hc : ∀ j u, [d0, d1, d2][j]? = some u → w.cell? (ad.add j) = some u) (ht : TyV w (fun _ => True) t [d0, d1, d2]) :
    ∃ p k w', (Builtin.append_ #[22, 22] ty #[.slice (some ⟨b, o, none⟩) l.length l.length, .slice (some ad) 1 c]).run Try.prog w = .ok (.slice p (l.length + 1) k) w' ∧ TysV w' (fun _ => True) (l ++ [t]) (.slice p (l.length + 1) k) ∧ Fr [] w w' := by
  obtain ⟨hN, hb, xs, hxs, hq⟩ := hat
  have hxl : xs.length = l.length * 3 := by rw [hq.len, rowsQ_ln ln_qTy]
  obtain ⟨j0, hj0, jz0, jz1, jz2⟩ := info_parts info_ty
  obtain ⟨v', w', hr, h2, h3⟩ := run_append_arg_grows (P := Try.prog) w 22 ty 24 j0 _ 3 40 Try.underlying22 hj0 jz0 jz1 jz2 rfl (by decide) ⟨b, o, none⟩ l.length l.length xs hxl
    (fun j u hj => by rw [addr_add, hxs j (by have := (List.getElem?_eq_some_iff.1 hj).1; omega), hj]) ad 1 c [d0, d1, d2] rfl hc (by omega) (by unfold maxLen; omega) (by omega)
  have hf : Fr [] w w' := ⟨h3.os, h3.tape, h3.output, h3.size, fun k hk _ => h3.block k hk (by simp)⟩
  have hO : OwnL w' (fun k => k < w.heap.size) w.heap.size 24 3 (l.length + 1) ((rowsQ qTy l).app (qTy t)) v' := by
    have hn : ∀ k, k < w.heap.size → some k ≠ v'.ownBlock := fun k hk e => by
      rcases h2.2 with ⟨rfl, _⟩ | ⟨g', _, _, rfl, hb', _⟩
      · simp [Value.ownBlock] at e
      · simp [Value.ownBlock] at e; omega
    exact ⟨_, h2, InN.app (hq.mono fun k _ hlt => ⟨⟨hlt, hn k hlt⟩, Nat.lt_of_lt_of_le hlt hf.size, hf.block k hlt (by simp)⟩) (InN.mono (fun k _ hlt => ⟨⟨hlt, hn k hlt⟩, Nat.lt_of_lt_of_le hlt hf.size, hf.block k hlt (by simp)⟩) ht)⟩
  obtain ⟨p, k, rfl⟩ := hO.shape
  refine ⟨p, k, w', hr, ?_, hf⟩
  have h4 := hO.inn2 (N' := fun _ => True) (fun _ _ _ => trivial) (fun _ _ => trivial)
  unfold TysV
  rw [List.length_append, List.length_singleton, rowsQ_snoc]
  exact h4
theorem step_append_full (w : World) {ops : Array Oper} {o : Oper} {a : Act} {K : Act → World → Prop} {QQ : Exit → Act → World → Prop} {E : Prop} (hgd : o.guard = none) (s x : Operand)
    (hop : o.op = Op.call { callee := Callee.builtin Builtin.append, args := #[s, x], argTypes := #[22, 22] })
    (N : Nat → Prop) (l : List Ty) (t : Ty) (b off : Nat) (hs : a.eval s = .slice (some ⟨b, off, none⟩) l.length l.length) (hat : TysAt w N l b off) (hl : l.length ≤ 100000) (ad : Addr) (c : Nat) (d0 d1 d2 : Value) (hx : a.eval x = .slice (some ad) 1 c)
    (hc : ∀ j u, [d0, d1, d2][j]? = some u → w.cell? (ad.add j) = some u) (ht : TyV w (fun _ => True) t [d0, d1, d2])
    (hK : ∀ p k w', TysV w' (fun _ => True) (l ++ [t]) (.slice p (l.length + 1) k) → Fr [] w w' → K (a.put o.dst (.slice p (l.length + 1) k)) w') :
    if Region.wanted o (yielded ops a.tmps) = true then Oper.wp Try.prog o a w K QQ else E := by
  have hw : Region.wanted o (yielded ops a.tmps) = true := by simp [Region.wanted, hgd]
  rw [if_pos hw]
  obtain ⟨p, k, w', hr, r1, r2⟩ := run_append_full w o.type N l t b off hat hl ad c d0 d1 d2 hc ht
  unfold Oper.wp execOp
  simp only [hop, resolve, invoke, builtin, Sem.run_bind, Sem.run_pure, Result.andThen_ok, List.map_toArray, List.map_cons, List.map_nil, hs, hx, hr]
  exact hK p k w' r1 r2
def CloneN (N : Nat → Prop) (E : List Ty) (w : World) (e : Ending) (w' : World) : Prop := ∃ v, e = .returned v ∧ TysV w' (fun k => N k ∨ w.heap.size ≤ k) E v ∧ Fr [] w w'
set_option maxRecDepth 100000 in
set_option maxHeartbeats 1600000 in
theorem clone_apart (N : Nat → Prop) (E : List Ty) (v : Value) (w : World) (hv : TysV w N E v) (h0 : 0 < E.length) (hl : E.length ≤ 100000) : Calls Try.prog 78 #[v] w (CloneN N E w) := by
  rcases hv.cases with ⟨rfl, _⟩ | ⟨_, b, o, cap, rfl, hc, hm, hat⟩
  · simp at h0
  unfold maxLen at hm
  obtain ⟨_, hb, xs, hxs, hq⟩ := hat
  have hxl : xs.length = E.length * 3 := by rw [hq.len, rowsQ_ln ln_qTy]
  obtain ⟨j0, hj0, jz0, jz1, jz2⟩ := info_parts info_ty
  have HJ0 := Lib.hid hj0
  have HJZ0 := Lib.hid jz0
  have HJZ1 := Lib.hid jz1
  have HJZ2 := Lib.hid jz2
  obtain ⟨w1, hw1⟩ : ∃ w1, w1 = w.alloc (.cells #[] 24) := ⟨_, rfl⟩
  have HF1 : Hid (Fr [] w w1) := Lib.hid (by rw [hw1]; exact (Fr.refl _ _).alloc _)
  obtain ⟨M, hM⟩ : ∃ M : Nat → Prop, M = fun k => k < w.heap.size ∧ N k := ⟨_, rfl⟩
  have HM := Lib.hid hM
  have HO1 : Hid (OwnL w1 M w.heap.size 24 3 0 .nil (.slice (some ⟨w.heap.size, 0, none⟩) 0 0)) := Lib.hid (OwnL.empty _ (Nat.le_refl _) (by rw [hw1]; exact Blk.new _ _ _))
  have HC : Hid (∀ j u, xs[j]? = some u → w1.cell? ((⟨b, o, none⟩ : Addr).add j) = some u) := Lib.hid (fun j u hj => by
    rw [addr_add, HF1.out.cell hb (by simp), hxs j (by have := (List.getElem?_eq_some_iff.1 hj).1; omega), hj])
  have HQ : Hid (InN w1 (fun k => M k ∧ some k ≠ (Value.slice (some ⟨w.heap.size, 0, none⟩) 0 0).ownBlock) (rowsQ qTy E) xs) := Lib.hid (hq.mono (fun k hN hk => ⟨⟨by rw [hM]; exact ⟨hk, hN⟩, by simp [Value.ownBlock]; omega⟩, Nat.lt_of_lt_of_le hk HF1.out.size, HF1.out.block k hk (by simp)⟩))
  have HZ : Hid (w.heap.size ≤ w1.heap.size) := Lib.hid HF1.out.size
  have HXL := Lib.hid hxl
  have q22 : ∀ (w : World) (a : Option Addr) (n c n' c' : Nat), (binOp .eql 22 (.slice a n c) (.slice none n' c')).run Try.prog w = .ok (.bool a.isNone) w := fun w a n c n' c' => Lib.run_eql_slice_nil w _ _ a n c n' c' Try.underlying22
  clear hv hxs hq hxl hj0 jz0 jz1 jz2 hM
  go_enter Try.func78, Try.ntmps78
  go_wp2_with (at_builtin; go_loud (rw [← hw1]; refine wpList_append_ownl _ rfl _ _ 22 rfl M w.heap.size 24 j0 _ 3 40 Try.underlying22 HJ0.out HJZ0.out HJZ1.out HJZ2.out rfl (by decide) _ 0 E.length .nil (rowsQ qTy E) rfl HO1.out ⟨b, o, none⟩ cap xs rfl HXL.out HC.out HQ.out (by omega) (by decide) HZ.out ?_; intro v' w2 hL2 hg2 hv2; have HL2 := Lib.hid hL2; have HG2 := Lib.hid hg2; clear hL2 hg2 hv2))
  go_ret
  have hL2 := HL2.out
  rw [Nat.zero_add] at hL2
  exact ⟨_, rfl, hL2.inn2 (fun k _ h => .inl (by rw [HM.out] at h; exact h.2)) (fun g hg => .inr (hL2.own g hg).1), HF1.out.grown HG2.out (fun k hk => .inr (by cases hk; exact Nat.le_refl _))⟩
def ApplN (N : Nat → Prop) (E : List Ty) (w : World) (e : Ending) (w' : World) : Prop := ∃ pE pA pF v, e = .returned (.func (.func 81) #[] #[.pointer (some ⟨pF, 0, none⟩)]) ∧ AppV w' E v pE pA pF ∧ TysV w' (fun k => N k ∨ w.heap.size ≤ k) E v ∧ Fr [] w w'
set_option maxHeartbeats 1600000 in
theorem application_apart (N : Nat → Prop) (E : List Ty) (v : Value) (w : World) (hv : TysV w N E v) (h0 : 0 < E.length) (hl : E.length ≤ 100000) : Calls Try.prog 55 #[v] w (ApplN N E w) := by
  have HV := Lib.hid hv
  have hmf1 := run_makeApp1
  have hmf2 := run_makeApp2
  obtain ⟨p, c, rfl⟩ := hv.shape
  clear hv
  go_enter Try.func55, Try.ntmps55
  go_wp2_with fail
  refine (clone_apart N E _ w HV.out h0 hl).mono ?_
  rintro e w2 ⟨v2, rfl, hv2, hf2⟩
  obtain ⟨p2, c2, rfl⟩ := hv2.shape
  have HV2 := Lib.hid hv2
  have HF2 := Lib.hid hf2
  clear hv2 hf2
  go_wp2_with fail
  go_ret
  have hf4 : Fr [] w2 (((w2.alloc (.cells #[.slice p2 E.length c2] 22)).alloc (.cells #[.func (.func 81) #[] #[.pointer (some ⟨w2.heap.size + 1 + 1, 0, none⟩)]] 57)).alloc (.cells #[.func (.func 79) #[] #[.pointer (some ⟨w2.heap.size, 0, none⟩), .pointer (some ⟨w2.heap.size + 1, 0, none⟩)]] 79)) := (((Fr.refl _ _).alloc _).alloc _).alloc _
  have hv4 := HV2.out.keep0 hf4
  exact ⟨_, _, _, _, rfl, ⟨((Blk.new _ _ _).alloc _).alloc _, (Blk.new_at (by simp)).alloc _, Blk.new_at (by simp), hv4.weak (fun _ _ _ => trivial)⟩, hv4, HF2.out.trans hf4⟩
end Go.Proofs.Ytkhbgdhgjbnhpaa
