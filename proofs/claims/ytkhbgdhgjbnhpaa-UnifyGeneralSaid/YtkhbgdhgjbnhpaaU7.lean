/-
  The walks of copied, Subst, sameHead, same.
-/
import Derived.Test.YtkhbgdhgjbnhpaaU6
set_option linter.unusedVariables false
set_option linter.unusedSimpArgs false
set_option linter.unusedSectionVars false
namespace Go.Proofs.Ytkhbgdhgjbnhpaa
open Go.RowKit Go.Lib
open Un (kd nm ar size sizes mapT subst rep)

theorem mapS_pure {σ : Type} (f : Ty → Option Ty) (s : σ) : ∀ t, mapS (fun s t => some (s, f t)) s t = some (s, mapT f t) := by
  refine Un.Ty.ind fun k i al ih => ?_
  rw [mapS, Un.mapT_mk]
  cases h : f (.mk k i al) with
  | some r => simp
  | none =>
    simp only
    have key : ∀ l : List Ty, (∀ a ∈ l, mapS (fun s t => some (s, f t)) s a = some (s, mapT f a)) → mapSs (fun s t => some (s, f t)) s l = some (s, l.map (mapT f)) := by
      intro l
      induction l with
      | nil => intro _; rw [mapSs]; rfl
      | cons a r ihr =>
        intro h
        rw [mapSs, h a (by simp)]
        simp only
        rw [ihr (fun b hb => h b (by simp [hb]))]
        rfl
    rw [key al ih]
/-- nothing is kept in mind -/
theorem kept_unit (N : Nat → Prop) : Kept 0 [] N (fun (_ : Unit) (_ : World) => True) := ⟨fun _ _ _ _ _ _ => trivial, fun _ _ _ => Nat.zero_le _, (by simp), (by simp)⟩
/-- a type in new memory -/
def NewP (t : Ty) (w : World) (e : Ending) (w' : World) : Prop := Fr [] w w' ∧ ∃ ds, e = .returned (.agg ds.toArray) ∧ TyV w' (fun k => w.heap.size ≤ k) t ds
theorem MadeP.new {σ : Type} {I : σ → World → Prop} {r : σ × Ty} {w w' : World} {e : Ending} (h : MadeP [] I r w e w') : NewP r.2 w e w' := ⟨h.1, h.2.2⟩
theorem enters_copied1 : Enters 74 := fun _ _ => by kernel_rfl
theorem copied1_any (a : Ty) (cs : List Value) (w : World) (N : Nat → Prop) (h : TyV w N a cs) : Calls Try.prog 74 #[.agg cs.toArray] w (StepP [] (fun (_ : Unit) (_ : World) => True) ((), none) w) := by
  obtain ⟨p, c, rfl, _⟩ := h.shape
  clear h
  go_enter Try.func74, Try.ntmps74
  go_wp2_with fail
  refine bodyPost_ret (v := .tuple #[.agg #[.int .i64 0, .int .i64 0, .slice none 0 0], .bool false]) (by simp [results, Try.results74, go_sem]) rfl ?_
  exact ⟨((Fr.refl _ _).alloc _).alloc _, trivial, .inl ⟨rfl, rfl⟩⟩
/-- what makes one block and calls -/
theorem NewP.after {t : Ty} {w w1 w' : World} {e : Ending} (hf : Fr [] w w1) (h : NewP t w1 e w') : NewP t w e w' := by
  obtain ⟨h1, ds, h2, h3⟩ := h
  exact ⟨hf.trans h1, ds, h2, h3.weak (fun k _ hk => Nat.le_trans hf.size hk)⟩
/-- a type that is handed on in a result of the call's own -/
theorem NewP.stored {t : Ty} {w w1 w2 : World} {b : Nat} {x y z : Value} {p : Option Addr} {c : Nat} (hb : w.heap.size ≤ b) (hbl : b < w1.heap.size) (hB : Blk w2 b 24 #[x, y, z]) (hf : Fr [] w w2) (ht : TyV w2 (fun k => w1.heap.size ≤ k) t [.int .i64 (kd t), .int .i64 (nm t), .slice p (ar t).length c]) :
    Blk (((w2.setCell ⟨b, 0, none⟩ (.int .i64 (kd t))).setCell ⟨b, 1, none⟩ (.int .i64 (nm t))).setCell ⟨b, 2, none⟩ (.slice p (ar t).length c)) b 24 #[.int .i64 (kd t), .int .i64 (nm t), .slice p (ar t).length c] ∧
    NewP t w (.returned (.agg #[.int .i64 (kd t), .int .i64 (nm t), .slice p (ar t).length c])) (((w2.setCell ⟨b, 0, none⟩ (.int .i64 (kd t))).setCell ⟨b, 1, none⟩ (.int .i64 (nm t))).setCell ⟨b, 2, none⟩ (.slice p (ar t).length c)) := by
  refine ⟨hB.set3 _ _ _, hf.set3 (.inr hb) _ _ _, [.int .i64 (kd t), .int .i64 (nm t), .slice p (ar t).length c], rfl, InN.mono (fun k h1 h2 => ⟨by omega, by simpa [World.setCell] using h2, set3_block _ _ _ (by omega)⟩) ht⟩
set_option maxHeartbeats 1600000 in
theorem copied_any (t : Ty) (cs : List Value) (w : World) (N : Nat → Prop) (h : TyV w N t cs) (hs : size t ≤ 100000) : Calls Try.prog 50 #[.agg cs.toArray] w (NewP t w) := by
  have HM := Lib.hid (fun (w : World) (cs : List Value) (h : TyV w N t cs) => mapped_any 74 #[] 0 [] N (fun (_ : Unit) (_ : World) => True) (fun s _ => some (s, none)) enters_copied1 (kept_unit N) (size t) t (Nat.le_refl _) hs
    (fun a _ s cs w r _ ht hr => by cases hr; exact copied1_any a cs w N ht) () cs w ((), t) trivial h (by rw [mapS_pure, Un.mapT_none]))
  obtain ⟨p, c, rfl, _⟩ := h.shape
  have HT := Lib.hid h
  clear h
  go_enter Try.func50, Try.ntmps50
  go_wp2_with fail
  obtain ⟨w1, hw1⟩ : ∃ w1, w1 = (w.alloc (.cells #[.int .i64 (kd t), .int .i64 (nm t), .slice p (ar t).length c] 24)).alloc (.cells #[.int .i64 0, .int .i64 0, .slice none 0 0] 24) := ⟨_, rfl⟩
  have HB1 : Hid (Blk w1 (w.heap.size + 1) 24 #[.int .i64 0, .int .i64 0, .slice none 0 0]) := Lib.hid (by rw [hw1]; exact Blk.new_at (by simp))
  have HF0 : Hid (Fr [] w w1) := Lib.hid (by rw [hw1]; exact ((Fr.refl _ _).alloc _).alloc _)
  rw [← hw1]
  clear hw1
  refine (HM.out w1 _ (HT.out.keep0 HF0.out)).mono ?_
  intro e w2 hp
  obtain ⟨hf2, ds, rfl, hty⟩ := hp.new
  obtain ⟨p2, c2, rfl, _⟩ := hty.shape
  have HBs := HB1.out.keep hf2 (by simp)
  have hbl : w.heap.size + 1 < w1.heap.size := HB1.out.lt
  obtain ⟨q1, q2⟩ := NewP.stored (b := w.heap.size + 1) (by omega) hbl HBs (HF0.out.trans hf2) hty
  have Q2 := Lib.hid q2
  have c0 : w2.cell? ⟨w.heap.size + 1, 0, none⟩ = some (.int .i64 0) := HBs.cell 0
  have c1 : w2.cell? ⟨w.heap.size + 1, 1, none⟩ = some (.int .i64 0) := HBs.cell 1
  have c2' : w2.cell? ⟨w.heap.size + 1, 2, none⟩ = some (.slice none 0 0) := HBs.cell 2
  have f0 : w2.frozen? ⟨w.heap.size + 1, 0, none⟩ = false := HBs.frozen 0
  have f1 : w2.frozen? ⟨w.heap.size + 1, 1, none⟩ = false := HBs.frozen 1
  have f2 : w2.frozen? ⟨w.heap.size + 1, 2, none⟩ = false := HBs.frozen 2
  have hle : w.heap.size + 1 < w2.heap.size := HBs.lt
  have d0 := q1.cell 0
  have d1 := q1.cell 1
  have d2 := q1.cell 2
  have D0 := Lib.hid d0
  have D1 := Lib.hid d1
  have D2 := Lib.hid d2
  clear q1 q2 d0 d1 d2 HBs hp hf2 hty
  go_wp2_with fail
  have d0 := D0.out
  have d1 := D1.out
  have d2 := D2.out
  exact bodyPost_ret (v := .agg #[.int .i64 (kd t), .int .i64 (nm t), .slice p2 (ar t).length c2]) (by simp [results, Try.results50, go_sem, d0, d1, d2]) rfl Q2.out
end Go.Proofs.Ytkhbgdhgjbnhpaa
