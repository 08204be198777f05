/-
  The walks of slices.Clone at types, apply and application.
-/
import Derived.Test.YtkhbgdhgjbnhpaaU27
import Derived.Laws.EntriesVeiled
import Derived.Lib.SliceRun
set_option linter.unusedVariables false
set_option linter.unusedSimpArgs false
set_option linter.unusedSectionVars false
namespace Go.Proofs.Ytkhbgdhgjbnhpaa
open Go.RowKit Go.Lib
open Un (kd nm ar size sizes unsolved appStep app)

theorem addr_add (b o j : Nat) : ((⟨b, o, none⟩ : Addr).add j) = ⟨b, o + j, none⟩ := by
  simp only [Addr.add]
  split
  · rename_i h; subst h; rfl
  · rfl
theorem OwnL.empty {w : World} (N : Nat → Prop) {B E s g : Nat} (hB : B ≤ g) (hb : Blk w g E #[]) : OwnL w N B E s 0 .nil (.slice (some ⟨g, 0, none⟩) 0 0) :=
  ⟨[], ⟨by simp, .inr ⟨g, 0, #[], rfl, hB, hb, Nat.le_refl _, Nat.zero_le _, by simp, by simp⟩⟩, InN.mk_nil _ _⟩
def CloneP (E : List Ty) (w : World) (e : Ending) (w' : World) : Prop := ∃ v, e = .returned v ∧ TysV w' (fun _ => True) E v ∧ Fr [] w w'
set_option maxRecDepth 100000 in
set_option maxHeartbeats 1600000 in
theorem clone_any (E : List Ty) (v : Value) (w : World) (hv : TysV w (fun _ => True) E v) (h0 : 0 < E.length) (hl : E.length ≤ 100000) : Calls Try.prog 78 #[v] w (CloneP E w) := by
  rcases hv.cases with ⟨rfl, _⟩ | ⟨_, b, o, cap, rfl, hc, hm, hat⟩
  · simp at h0
  unfold maxLen at hm
  obtain ⟨_, hb, xs, hxs, hq⟩ := hat
  have hxl : xs.length = E.length * 3 := by rw [hq.len, rowsQ_ln ln_qTy]
  obtain ⟨j0, hj0, jz0, jz1, jz2⟩ := info_parts info_ty
  have HJ0 := Lib.hid hj0
  have HJZ0 := Lib.hid jz0
  have HJZ1 := Lib.hid jz1
  have HJZ2 := Lib.hid jz2
  obtain ⟨w1, hw1⟩ : ∃ w1, w1 = w.alloc (.cells #[] 24) := ⟨_, rfl⟩
  have HF1 : Hid (Fr [] w w1) := Lib.hid (by rw [hw1]; exact (Fr.refl _ _).alloc _)
  have HO1 : Hid (OwnL w1 (fun k => k < w.heap.size) w.heap.size 24 3 0 .nil (.slice (some ⟨w.heap.size, 0, none⟩) 0 0)) := Lib.hid (OwnL.empty _ (Nat.le_refl _) (by rw [hw1]; exact Blk.new _ _ _))
  have HC : Hid (∀ j u, xs[j]? = some u → w1.cell? ((⟨b, o, none⟩ : Addr).add j) = some u) := Lib.hid (fun j u hj => by
    rw [addr_add, HF1.out.cell hb (by simp), hxs j (by have := (List.getElem?_eq_some_iff.1 hj).1; omega), hj])
  have HQ : Hid (InN w1 (fun k => k < w.heap.size ∧ some k ≠ (Value.slice (some ⟨w.heap.size, 0, none⟩) 0 0).ownBlock) (rowsQ qTy E) xs) := Lib.hid (hq.mono (fun k _ hk => ⟨⟨hk, by simp [Value.ownBlock]; omega⟩, Nat.lt_of_lt_of_le hk HF1.out.size, HF1.out.block k hk (by simp)⟩))
  have HZ : Hid (w.heap.size ≤ w1.heap.size) := Lib.hid HF1.out.size
  have HXL := Lib.hid hxl
  have q22 : ∀ (w : World) (a : Option Addr) (n c n' c' : Nat), (binOp .eql 22 (.slice a n c) (.slice none n' c')).run Try.prog w = .ok (.bool a.isNone) w := fun w a n c n' c' => Lib.run_eql_slice_nil w _ _ a n c n' c' Try.underlying22
  clear hv hxs hq hxl hj0 jz0 jz1 jz2
  go_enter Try.func78, Try.ntmps78
  go_wp2_with (at_builtin; go_loud (rw [← hw1]; refine wpList_append_ownl _ rfl _ _ 22 rfl (fun k => k < w.heap.size) w.heap.size 24 j0 _ 3 40 Try.underlying22 HJ0.out HJZ0.out HJZ1.out HJZ2.out rfl (by decide) _ 0 E.length .nil (rowsQ qTy E) rfl HO1.out ⟨b, o, none⟩ cap xs rfl HXL.out HC.out HQ.out (by omega) (by decide) HZ.out ?_; intro v' w2 hL2 hg2 hv2; have HL2 := Lib.hid hL2; have HG2 := Lib.hid hg2; clear hL2 hg2 hv2))
  go_ret
  have hL2 := HL2.out
  rw [Nat.zero_add] at hL2
  exact ⟨_, rfl, hL2.inn2 (fun _ _ _ => trivial) (fun _ _ => trivial), HF1.out.grown HG2.out (fun k hk => .inr (by cases hk; exact Nat.le_refl _))⟩
set_option maxRecDepth 100000 in
set_option maxHeartbeats 1600000 in
/-- apply -/
theorem apply_any (E : List Ty) (v : Value) (pE pA pF : Nat) (w1 : World) (hA : AppV w1 E v pE pA pF) (hE : ∀ x ∈ E, size x ≤ 100000) : ∀ (f : Nat) (t r : Ty), app E f t = some r → size t ≤ 100000 → ∀ (cs : List Value) (w : World), Lat w1 w → TyV w (fun _ => True) t cs →
    Calls Try.prog 81 #[.agg cs.toArray, .pointer (some ⟨pF, 0, none⟩)] w (NewP r w) := by
  intro f
  induction f with
  | zero => intro t r h; simp [app] at h
  | succ f ih =>
    intro t r hr hs cs w hL h
    rw [app] at hr
    obtain ⟨q, hq, rfl⟩ : ∃ q, mapS (fun (_ : Unit) a => appStep E (app E f) a) () t = some q ∧ q.2 = r := by
      cases h1 : mapS (fun (_ : Unit) a => appStep E (app E f) a) () t with
      | none => simp [h1] at hr
      | some q => rw [h1] at hr; simp only [Option.some.injEq] at hr; exact ⟨q, rfl, hr⟩
    have HM := Lib.hid (fun (w : World) (cs : List Value) (hL : Lat w1 w) (h : TyV w (fun _ => True) t cs) => mapped_any 79 #[.pointer (some ⟨pE, 0, none⟩), .pointer (some ⟨pA, 0, none⟩)] w1.heap.size [] (fun _ => True) (fun (_ : Unit) (w : World) => Lat w1 w) (fun _ a => appStep E (app E f) a) enters_app1 (kept_lat w1 _) (size t) t (Nat.le_refl _) hs
      (fun a _ s cs w r hl ht hr => app1_any E v pE pA pF w1 w hA hl (app E f) (fun x r hx hr cs w hl ht => ih x r hr (hE x hx) cs w hl ht) a cs ht r hr) () cs w q hL h hq)
    obtain ⟨p, c, rfl, _⟩ := h.shape
    have HT := Lib.hid h
    have HL := Lib.hid hL
    have hA2 := hA.lat hL
    have s0 : w.cell? ⟨pF, 0, none⟩ = some (.func (.func 79) #[] #[.pointer (some ⟨pE, 0, none⟩), .pointer (some ⟨pA, 0, none⟩)]) := hA2.f.cell 0
    have hz : pF < w.heap.size := hA2.f.lt
    obtain ⟨w2, hw2⟩ : ∃ w2, w2 = (w.alloc (.cells #[.int .i64 (kd t), .int .i64 (nm t), .slice p (ar t).length c] 24)).alloc (.cells #[.int .i64 0, .int .i64 0, .slice none 0 0] 24) := ⟨_, rfl⟩
    have HB1 : Hid (Blk w2 (w.heap.size + 1) 24 #[.int .i64 0, .int .i64 0, .slice none 0 0]) := Lib.hid (by rw [hw2]; exact Blk.new_at (by simp))
    have HF0 : Hid (Fr [] w w2) := Lib.hid (by rw [hw2]; exact ((Fr.refl _ _).alloc _).alloc _)
    clear h hL hA2 hr hq ih hA
    go_enter Try.func81, Try.ntmps81
    go_wp2_with fail
    rw [← hw2]
    clear hw2 s0 hz
    refine (HM.out w2 _ (HL.out.fr HF0.out) (HT.out.keep0 HF0.out)).mono ?_
    intro e w3 hp
    obtain ⟨hf3, ds, rfl, hty⟩ := hp.new
    obtain ⟨p2, c2, rfl, _⟩ := hty.shape
    have HBs := HB1.out.keep hf3 (by simp)
    have hbl : w.heap.size + 1 < w2.heap.size := HB1.out.lt
    obtain ⟨q1, q2⟩ := NewP.stored (b := w.heap.size + 1) (by omega) hbl HBs (HF0.out.trans hf3) hty
    have Q2 := Lib.hid q2
    have c0 : w3.cell? ⟨w.heap.size + 1, 0, none⟩ = some (.int .i64 0) := HBs.cell 0
    have c1 : w3.cell? ⟨w.heap.size + 1, 1, none⟩ = some (.int .i64 0) := HBs.cell 1
    have c2' : w3.cell? ⟨w.heap.size + 1, 2, none⟩ = some (.slice none 0 0) := HBs.cell 2
    have f0 : w3.frozen? ⟨w.heap.size + 1, 0, none⟩ = false := HBs.frozen 0
    have f1 : w3.frozen? ⟨w.heap.size + 1, 1, none⟩ = false := HBs.frozen 1
    have f2 : w3.frozen? ⟨w.heap.size + 1, 2, none⟩ = false := HBs.frozen 2
    have hle : w.heap.size + 1 < w3.heap.size := HBs.lt
    have D0 := Lib.hid (q1.cell 0)
    have D1 := Lib.hid (q1.cell 1)
    have D2 := Lib.hid (q1.cell 2)
    clear q1 q2 HBs hp hf3 hty
    go_wp2_with fail
    have d0 := D0.out
    have d1 := D1.out
    have d2 := D2.out
    exact bodyPost_ret (v := .agg #[.int .i64 (kd q.2), .int .i64 (nm q.2), .slice p2 (ar q.2).length c2]) (by simp [results, Try.results81, go_sem, d0, d1, d2]) rfl Q2.out
def ApplP (E : List Ty) (w : World) (e : Ending) (w' : World) : Prop := ∃ pE pA pF v, e = .returned (.func (.func 81) #[] #[.pointer (some ⟨pF, 0, none⟩)]) ∧ AppV w' E v pE pA pF ∧ Fr [] w w'
theorem run_makeApp1 (w : World) (a b : Value) : (Instr.makeFunc (.func 79) #[] #[a, b]).run Try.prog w = .ok (.func (.func 79) #[] #[a, b]) w := rfl
theorem run_makeApp2 (w : World) (a : Value) : (Instr.makeFunc (.func 81) #[] #[a]).run Try.prog w = .ok (.func (.func 81) #[] #[a]) w := rfl
set_option maxHeartbeats 1600000 in
theorem application_any (E : List Ty) (v : Value) (w : World) (hv : TysV w (fun _ => True) E v) (h0 : 0 < E.length) (hl : E.length ≤ 100000) : Calls Try.prog 55 #[v] w (ApplP E w) := by
  have HV := Lib.hid hv
  have hmf1 := run_makeApp1
  have hmf2 := run_makeApp2
  obtain ⟨p, c, rfl⟩ := hv.shape
  clear hv
  go_enter Try.func55, Try.ntmps55
  go_wp2_with fail
  refine (clone_any E _ w HV.out h0 hl).mono ?_
  rintro e w2 ⟨v2, rfl, hv2, hf2⟩
  obtain ⟨p2, c2, rfl⟩ := hv2.shape
  have HV2 := Lib.hid hv2
  have HF2 := Lib.hid hf2
  clear hv2 hf2
  go_wp2_with fail
  go_ret
  have hf4 : Fr [] w2 (((w2.alloc (.cells #[.slice p2 E.length c2] 22)).alloc (.cells #[.func (.func 81) #[] #[.pointer (some ⟨w2.heap.size + 1 + 1, 0, none⟩)]] 57)).alloc (.cells #[.func (.func 79) #[] #[.pointer (some ⟨w2.heap.size, 0, none⟩), .pointer (some ⟨w2.heap.size + 1, 0, none⟩)]] 79)) := (((Fr.refl _ _).alloc _).alloc _).alloc _
  exact ⟨_, _, _, _, rfl, ⟨((Blk.new _ _ _).alloc _).alloc _, (Blk.new_at (by simp)).alloc _, Blk.new_at (by simp), HV2.out.keep0 hf4⟩, HF2.out.trans hf4⟩
end Go.Proofs.Ytkhbgdhgjbnhpaa
