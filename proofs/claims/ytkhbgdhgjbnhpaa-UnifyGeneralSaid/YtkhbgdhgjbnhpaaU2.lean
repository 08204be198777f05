/-
  How types lie in memory.
-/
import Derived.Test.YtkhbgdhgjbnhpaaU0
import Derived.Test.YtkhbgdhgjbnhpaaU1
import Derived.Test.YtkhbgdhgjbnhpaaChecked
set_option linter.unusedVariables false
set_option linter.unusedSimpArgs false
set_option linter.unusedSectionVars false
namespace Go.Proofs.Ytkhbgdhgjbnhpaa
open Go.RowKit Go.Lib
open Un (kd nm ar)

mutual
def qTy : Ty → Q
  | .mk k i al => .int k (.int i (.sl 24 3 al.length (qTys al) .nil))
def qTys : List Ty → Q
  | [] => .nil
  | a :: r => (qTy a).app (qTys r)
end
theorem qTys_eq : ∀ l : List Ty, qTys l = rowsQ qTy l
  | [] => by rw [qTys, rowsQ]
  | a :: r => by rw [qTys, rowsQ, qTys_eq r]
theorem qTy_mk (k i : Int) (al : List Ty) : qTy (.mk k i al) = .int k (.int i (.sl 24 3 al.length (rowsQ qTy al) .nil)) := by rw [qTy, qTys_eq]
theorem qTy_eta (t : Ty) : qTy t = .int (kd t) (.int (nm t) (.sl 24 3 (ar t).length (rowsQ qTy (ar t)) .nil)) := by cases t; rw [qTy_mk]; rfl
theorem ln_qTy (t : Ty) : (qTy t).ln = 3 := by rw [qTy_eta]; rfl
/-- a slice of types -/
def TysV (w : World) (N : Nat → Prop) (l : List Ty) (v : Value) : Prop := InN w N (.sl 24 3 l.length (rowsQ qTy l) .nil) [v]
/-- a type's cells -/
def TyV (w : World) (N : Nat → Prop) (t : Ty) (cs : List Value) : Prop := InN w N (qTy t) cs
theorem TyV.shape {w : World} {N : Nat → Prop} {t : Ty} {cs : List Value} (h : TyV w N t cs) : ∃ p c, cs = [.int .i64 (kd t), .int .i64 (nm t), .slice p (ar t).length c] ∧ TysV w N (ar t) (.slice p (ar t).length c) := by
  unfold TyV at h
  rw [qTy_eta] at h
  obtain ⟨c1, rfl, h1⟩ := inn_int h
  obtain ⟨c2, rfl, h2⟩ := inn_int h1
  obtain ⟨p, cap, c3, rfl, hs, h3⟩ := inn_sl h2
  obtain rfl := inn_nil h3
  exact ⟨p, cap, rfl, hs⟩
theorem TyV.mk {w : World} {N : Nat → Prop} {k i : Int} {al : List Ty} {v : Value} (h : TysV w N al v) : TyV w N (.mk k i al) [.int .i64 k, .int .i64 i, v] := by
  unfold TyV
  rw [qTy_mk]
  exact InN.mk_int (InN.mk_int h)
theorem TyV.keep {w w' : World} {N : Nat → Prop} {t : Ty} {cs : List Value} (h : TyV w N t cs) {X : List Nat} (hf : Fr X w w') (hX : ∀ k ∈ X, ¬ N k) : TyV w' N t cs := InN.keep h hf (fun k _ hN hx => hX k hx hN)
theorem TyV.keep0 {w w' : World} {N : Nat → Prop} {t : Ty} {cs : List Value} (h : TyV w N t cs) (hf : Fr [] w w') : TyV w' N t cs := InN.keep0 h hf
theorem TyV.weak {w : World} {N N' : Nat → Prop} {t : Ty} {cs : List Value} (h : TyV w N t cs) (hN : ∀ k, k < w.heap.size → N k → N' k) : TyV w N' t cs := InN.weak h hN
theorem TysV.keep {w w' : World} {N : Nat → Prop} {l : List Ty} {v : Value} (h : TysV w N l v) {X : List Nat} (hf : Fr X w w') (hX : ∀ k ∈ X, ¬ N k) : TysV w' N l v := InN.keep h hf (fun k _ hN hx => hX k hx hN)
theorem TysV.keep0 {w w' : World} {N : Nat → Prop} {l : List Ty} {v : Value} (h : TysV w N l v) (hf : Fr [] w w') : TysV w' N l v := InN.keep0 h hf
theorem TysV.weak {w : World} {N N' : Nat → Prop} {l : List Ty} {v : Value} (h : TysV w N l v) (hN : ∀ k, k < w.heap.size → N k → N' k) : TysV w N' l v := InN.weak h hN
theorem TysV.shape {w : World} {N : Nat → Prop} {l : List Ty} {v : Value} (h : TysV w N l v) : ∃ p c, v = .slice p l.length c := by
  rcases InN.slice h with ⟨p, c, rfl, h0⟩ | ⟨b, o, cap, xs, rfl, _⟩
  · exact ⟨p, c, by rw [h0]⟩
  · exact ⟨_, _, rfl⟩
theorem TysV.len {w : World} {N : Nat → Prop} {l : List Ty} {v : Value} (h : TysV w N l v) : l.length ≤ maxLen := InN.slLen h
theorem TysV.nil {w : World} {N : Nat → Prop} (p : Option Addr) (c : Nat) : TysV w N [] (.slice p 0 c) := InN.slNil p c
/-- a slice of types with elements: where they stand -/
def TysAt (w : World) (N : Nat → Prop) (l : List Ty) (b o : Nat) : Prop :=
  N b ∧ b < w.heap.size ∧ ∃ xs, (∀ j, j < l.length * 3 → w.cell? ⟨b, o + j, none⟩ = xs[j]?) ∧ InN w N (rowsQ qTy l) xs
theorem TysV.cases {w : World} {N : Nat → Prop} {l : List Ty} {v : Value} (h : TysV w N l v) :
    (l = [] ∧ ∃ p c, v = .slice p 0 c) ∨ (0 < l.length ∧ ∃ b o cap, v = .slice (some ⟨b, o, none⟩) l.length cap ∧ l.length ≤ cap ∧ cap ≤ maxLen ∧ TysAt w N l b o) := by
  rcases InN.slice h with ⟨p, c, rfl, h0⟩ | ⟨b, o, cap, xs, rfl, h1, h2, h3, h4, h5, h6, h7, h8⟩
  · exact .inl ⟨List.eq_nil_of_length_eq_zero h0, p, c, rfl⟩
  · exact .inr ⟨h1, b, o, cap, rfl, h2, h3, h4, h5, xs, h7, h8⟩
/-- the element i, in a later world -/
theorem TysAt.el {w wr : World} {N : Nat → Prop} {l : List Ty} {b o : Nat} (h : TysAt w N l b o) {X : List Nat} (hf : Fr X w wr) (hX : ∀ k ∈ X, ¬ N k) {i : Nat} {t : Ty} (ht : l[i]? = some t) :
    ∃ p c, TyV wr N t [.int .i64 (kd t), .int .i64 (nm t), .slice p (ar t).length c] ∧ b < wr.heap.size ∧ wr.cell? ⟨b, o + i * 3, none⟩ = some (.int .i64 (kd t)) ∧ wr.cell? ⟨b, o + i * 3 + 1, none⟩ = some (.int .i64 (nm t)) ∧ wr.cell? ⟨b, o + i * 3 + 2, none⟩ = some (.slice p (ar t).length c) := by
  obtain ⟨hN, hb, xs, hc, hq⟩ := h
  have hi : i < l.length := by
    rcases Nat.lt_or_ge i l.length with h | h
    · exact h
    · rw [List.getElem?_eq_none h] at ht; cases ht
  obtain ⟨ds, k1, k2, k3⟩ := InN.get (f := qTy) (s := 3) ln_qTy l xs i t hq ht
  obtain ⟨p, c, rfl, _⟩ := TyV.shape k1
  have hbX : b ∉ X := fun hx => hX b hx hN
  have hcl : ∀ j, j < 3 → wr.cell? ⟨b, o + (i * 3 + j), none⟩ = [Value.int .i64 (kd t), .int .i64 (nm t), .slice p (ar t).length c][j]? := fun j hj => by
    rw [World.cell?_of_block (w := w) (hf.block b hb hbX), hc _ (by omega), k3 j hj]
  refine ⟨p, c, TyV.keep k1 hf hX, Nat.lt_of_lt_of_le hb hf.size, ?_, ?_, ?_⟩
  · have := hcl 0 (by omega); rw [← Nat.add_assoc] at this; exact this
  · have := hcl 1 (by omega); rw [← Nat.add_assoc] at this; exact this
  · have := hcl 2 (by omega); rw [← Nat.add_assoc] at this; exact this
/-- a call of the function enters its body -/
def Enters (F : Nat) : Prop := ∀ (args : Array Value) (w : World), (callFunc F args).run Try.prog w = .ok (.enter F args) w
theorem info_ty : (Try.prog.info? 24).map (fun i => (i.zero, i.size, i.bytes)) = some (some (.agg #[.int .i64 0, .int .i64 0, .slice none 0 0]), 3, 40) := by kernel_rfl
theorem info_int : (Try.prog.info? 3).map (fun i => (i.zero, i.size, i.bytes)) = some (some (.int .i64 0), 1, 8) := by kernel_rfl
end Go.Proofs.Ytkhbgdhgjbnhpaa
