/-
 Walks of name, number and symbol.
-/
import Derived.Test.YtpdhiminpdmpiaaGreatDoorVW2
import Derived.Maps.OwnOps
import Derived.Maps.OwnSet
import Derived.Lib.SmallJoins
set_option linter.unusedVariables false
set_option linter.unusedSimpArgs false
set_option linter.unusedSectionVars false
set_option linter.unusedVariables false
set_option linter.unusedSimpArgs false
set_option linter.unusedSectionVars false
namespace Go.Proofs.YtpdhiminpdmpiaaGreatDoor
open Go.RowKit Go.Lib
theorem bcell {W w1 : World} (hb : Below W.heap.size W w1) : (∀ b o, b < W.heap.size → w1.cell? ⟨b, o, none⟩ = W.cell? ⟨b, o, none⟩) ∧ (∀ b o, b < W.heap.size → w1.frozen? ⟨b, o, none⟩ = W.frozen? ⟨b, o, none⟩) :=
 ⟨fun b o h => hb.cell (p := ⟨b, o, none⟩) h, fun b o h => hb.frozen (p := ⟨b, o, none⟩) h⟩
theorem below4 {w w' : World} {B b : Nat} (h : Below B w w') (hb : B ≤ b) (v0 v1 v2 v3 : Value) :
  Below B w ((((w'.setCell ⟨b, 0, none⟩ v0).setCell ⟨b, 1, none⟩ v1).setCell ⟨b, 2, none⟩ v2).setCell ⟨b, 3, none⟩ v3) :=
 (((h.setCell (p := ⟨b, 0, none⟩) hb v0).setCell (p := ⟨b, 1, none⟩) hb v1).setCell (p := ⟨b, 2, none⟩) hb v2).setCell (p := ⟨b, 3, none⟩) hb v3
theorem name_ok (t : ByteArray) (o : Nat) (w : World) (h : t.size ≤ 24) :
  Calls Tryz.prog 186 #[.string t, .int .i64 o] w fun e w' => e = .returned (.tuple #[.agg #[.int .i64 1, .string t, .int .i64 0, .int .i64 o], .int .i64 0]) ∧ Below w.heap.size w w' := by
 have hd : decide (24 < (t.size : Int)) = false := by simp; omega
 go_enter Tryz.func186, Tryz.ntmps186
 go_wp2
 refine bodyPost_ret (v := .tuple #[.agg #[.int .i64 1, .string t, .int .i64 0, .int .i64 o], .int .i64 0]) (by simp [results, Tryz.results186, go_sem]) rfl ⟨rfl, ?_⟩
 exact ((Below.refl _ _).alloc (Nat.le_refl _) _)
theorem name_err (t : ByteArray) (o : Nat) (w : World) (h : 24 < t.size) :
  Calls Tryz.prog 186 #[.string t, .int .i64 o] w fun e w' => e = .returned (.tuple #[.agg #[.int .i64 0, .string ⟨#[]⟩, .int .i64 0, .int .i64 o], .int .i64 2]) ∧ Below w.heap.size w w' := by
 have hd : decide (24 < (t.size : Int)) = true := by simp; omega
 go_enter Tryz.func186, Tryz.ntmps186
 go_wp2
 refine bodyPost_ret (v := .tuple #[.agg #[.int .i64 0, .string ⟨#[]⟩, .int .i64 0, .int .i64 o], .int .i64 2]) (by simp [results, Tryz.results186, go_sem]) rfl ⟨rfl, ?_⟩
 exact ((Below.refl _ _).alloc (Nat.le_refl _) _)
/-! ### numbers -/
theorem clsN_digit (n : Nat) : Lx.clsN n = 8 ↔ 48 ≤ n ∧ n ≤ 57 := by
 unfold Lx.clsN
 split
 ·constructor <;> intro _ <;> omega
 ·split
  ·constructor <;> intro _ <;> omega
  ·split
   ·constructor <;> intro _ <;> omega
   ·split
    ·constructor <;> intro _ <;> omega
    ·split
     ·constructor <;> intro _ <;> omega
     ·constructor <;> intro _ <;> omega
theorem digit_iff (c : UInt8) : Lx.digitB c = true ↔ 48 ≤ c.toNat ∧ c.toNat ≤ 57 := by
 rw [← clsN_digit]; simp [Lx.digitB]
theorem parse_digits : ∀ (l : List UInt8) (acc : Nat), (∀ c ∈ l, Lx.digitB c = true) →
  parseUint10 acc l = .ok (Lx.numVal acc l) ∨ (parseUint10 acc l = .range ∧ 18446744073709551616 ≤ Lx.numVal acc l)
 | [], acc, _ => by left; simp only [parseUint10, Lx.numVal_nil]
 | c :: r, acc, h => by
  have hc := (digit_iff c).1 (h c (by simp))
  have ih := parse_digits r (acc * 10 + (c.toNat - 48)) (fun x hx => h x (by simp [hx]))
  have hg := Lx.numVal_ge r (10 * acc + (c.toNat - 48))
  simp only [parseUint10, Lx.numVal_cons, hc, and_self, if_true]
  rw [Nat.mul_comm acc 10] at *
  split
  ·right; exact ⟨rfl, by omega⟩
  ·split
   ·right; exact ⟨rfl, by omega⟩
   ·exact ih
theorem atoi_digits (l : List UInt8) (hne : l ≠ []) (h : ∀ c ∈ l, Lx.digitB c = true) :
  (atoiAll l = .ok (Lx.numVal 0 l : Int) ∧ Lx.numVal 0 l < 9223372036854775808) ∨ (atoiAll l = .range ∧ 9223372036854775808 ≤ Lx.numVal 0 l) := by
 cases l with
 | nil => exact absurd rfl hne
 | cons c r =>
  have hc := (digit_iff c).1 (h c (by simp))
  have h1 : ¬ c.toNat = 43 := by omega
  have h2 : ¬ c.toNat = 45 := by omega
  have hp := parse_digits (c :: r) 0 h
  unfold atoiAll
  simp only [h1, h2, or_self, not_false_eq_true, true_and, false_and, if_false, parseMag]
  rw [if_neg (by simp)]
  rcases hp with hp | ⟨hp, hb⟩
  ·rw [hp]
   by_cases hv : 9223372036854775808 ≤ Lx.numVal 0 (c :: r)
   ·right; simp [hv]
   ·left; simp [hv]; omega
  ·right; rw [hp]; exact ⟨rfl, by omega⟩
/-- what a call leaves where the variable ErrRange lies -/
def ErrAt (w : World) : Prop := ∃ ev, w.cell? ⟨7, 0, none⟩ = some ev ∧ (ev = .nilIface ∨ ∃ te pe, ev = .iface te pe) ∧ 7 < w.heap.size
theorem ErrAt.below {w w' : World} {B : Nat} (h : ErrAt w) (hb : Below B w w') (hB : w.heap.size ≤ B) : ErrAt w' := by
 obtain ⟨ev, h1, h2, h3⟩ := h
 exact ⟨ev, (hb.cell (p := ⟨7, 0, none⟩) (by simp; omega)).trans h1, h2, by have := hb.size; omega⟩
theorem atoi_small (t : ByteArray) (w : World) (hs : t.size ≤ 140737488355328) (hne : t.data.toList ≠ []) (h : ∀ c ∈ t.data.toList, Lx.digitB c = true) (hv : Lx.numVal 0 t.data.toList < 9223372036854775808) :
  Calls Tryz.prog 229 #[.string t] w fun e w' => e = .returned (.tuple #[.int .i64 (Lx.numVal 0 t.data.toList), .nilIface]) ∧ Below w.heap.size w w' := by
 rcases atoi_digits _ hne h with ⟨h1, h2⟩ | ⟨h1, h2⟩
 ·refine (Tryz.strconv_Atoi_ok t (by omega) _ h1 w).mono ?_
  rintro e w' ⟨rfl, rfl | ⟨x, rfl⟩⟩
  ·exact ⟨rfl, Below.refl _ _⟩
  ·exact ⟨rfl, Joins.below_bytesWorld _ _ _ _ (Nat.le_refl _)⟩
 ·omega
theorem atoi_big (t : ByteArray) (w : World) (hs : t.size ≤ 140737488355328) (hne : t.data.toList ≠ []) (h : ∀ c ∈ t.data.toList, Lx.digitB c = true) (hv : 9223372036854775808 ≤ Lx.numVal 0 t.data.toList) (hE : ErrAt w) :
  Calls Tryz.prog 229 #[.string t] w fun e w' => (∃ v N, e = .returned (.tuple #[.int .i64 v, .iface 329 (.pointer (some ⟨N, 0, none⟩))])) ∧ Below w.heap.size w w' := by
 rcases atoi_digits _ hne h with ⟨h1, h2⟩ | ⟨h1, h2⟩
 ·omega
 ·obtain ⟨ev, e1, e2, _⟩ := hE
  refine (Tryz.strconv_Atoi_range t (by omega) h1 ev w e1 e2).mono ?_
  rintro e w' ⟨N, rfl, _, _, hb⟩
  exact ⟨⟨_, N, rfl⟩, hb⟩
theorem number_ok (t : ByteArray) (o : Nat) (w : World) (hne : t.data.toList ≠ []) (h : ∀ c ∈ t.data.toList, Lx.digitB c = true) (hl : t.size ≤ 10) (hv : Lx.numVal 0 t.data.toList ≤ 1000000000) :
  Calls Tryz.prog 187 #[.string t, .int .i64 o] w fun e w' => e = .returned (.tuple #[.agg #[.int .i64 2, .string t, .int .i64 (Lx.numVal 0 t.data.toList), .int .i64 o], .int .i64 0]) ∧ Below w.heap.size w w' := by
 have hd : decide (10 < (t.size : Int)) = false := by simp; omega
 have hd2 : decide (1000000000 < (Lx.numVal 0 t.data.toList : Int)) = false := by simp; omega
 have H := Lib.hid h
 clear h
 go_enter Tryz.func187, Tryz.ntmps187
 go_wp2_with (go_at_call 229; refine (atoi_small t _ (by omega) hne H.out (by omega)).mono ?_; rintro e w' ⟨rfl, hb⟩; obtain ⟨hc, hf⟩ := bcell hb)
 refine bodyPost_ret (v := .tuple #[.agg #[.int .i64 2, .string t, .int .i64 (Lx.numVal 0 t.data.toList), .int .i64 o], .int .i64 0]) (by simp [results, Tryz.results187, go_sem, hc]) rfl ⟨rfl, ?_⟩
 exact below4 (((Below.refl _ _).alloc (Nat.le_refl _) _).trans (hb.mono (by simp))) (Nat.le_refl _) _ _ _ _
theorem number_err (t : ByteArray) (o : Nat) (w : World) (hs : t.size ≤ 140737488355328) (hne : t.data.toList ≠ []) (h : ∀ c ∈ t.data.toList, Lx.digitB c = true) (hx : 10 < t.size ∨ 1000000000 < Lx.numVal 0 t.data.toList) (hE : ErrAt w) :
  Calls Tryz.prog 187 #[.string t, .int .i64 o] w fun e w' => e = .returned (.tuple #[.agg #[.int .i64 0, .string ⟨#[]⟩, .int .i64 0, .int .i64 o], .int .i64 2]) ∧ Below w.heap.size w w' := by
 have H := Lib.hid h
 clear h
 by_cases hv : Lx.numVal 0 t.data.toList < 9223372036854775808
 ·by_cases hl : 10 < t.size
  ·have hd : decide (10 < (t.size : Int)) = true := by simp; omega
   go_enter Tryz.func187, Tryz.ntmps187
   go_wp2_with (go_at_call 229; refine (atoi_small t _ (by omega) hne H.out (by omega)).mono ?_; rintro e w' ⟨rfl, hb⟩; obtain ⟨hc, hf⟩ := bcell hb)
   refine bodyPost_ret (v := .tuple #[.agg #[.int .i64 0, .string ⟨#[]⟩, .int .i64 0, .int .i64 o], .int .i64 2]) (by simp [results, Tryz.results187, go_sem, hc]) rfl ⟨rfl, ?_⟩
   exact below4 (((Below.refl _ _).alloc (Nat.le_refl _) _).trans (hb.mono (by simp))) (Nat.le_refl _) _ _ _ _
  ·have hd : decide (10 < (t.size : Int)) = false := by simp; omega
   have hd2 : decide (1000000000 < (Lx.numVal 0 t.data.toList : Int)) = true := by simp; omega
   go_enter Tryz.func187, Tryz.ntmps187
   go_wp2_with (go_at_call 229; refine (atoi_small t _ (by omega) hne H.out (by omega)).mono ?_; rintro e w' ⟨rfl, hb⟩; obtain ⟨hc, hf⟩ := bcell hb)
   refine bodyPost_ret (v := .tuple #[.agg #[.int .i64 0, .string ⟨#[]⟩, .int .i64 0, .int .i64 o], .int .i64 2]) (by simp [results, Tryz.results187, go_sem, hc]) rfl ⟨rfl, ?_⟩
   exact below4 (((Below.refl _ _).alloc (Nat.le_refl _) _).trans (hb.mono (by simp))) (Nat.le_refl _) _ _ _ _
 ·go_enter Tryz.func187, Tryz.ntmps187
  go_wp2_with (go_at_call 229; refine (atoi_big t _ (by omega) hne H.out (by omega) (hE.below ((Below.refl _ w).alloc (Nat.le_refl _) _) (Nat.le_refl _))).mono ?_; rintro e w' ⟨⟨v, N, rfl⟩, hb⟩; obtain ⟨hc, hf⟩ := bcell hb)
  refine bodyPost_ret (v := .tuple #[.agg #[.int .i64 0, .string ⟨#[]⟩, .int .i64 0, .int .i64 o], .int .i64 2]) (by simp [results, Tryz.results187, go_sem, hc]) rfl ⟨rfl, ?_⟩
  exact below4 (((Below.refl _ _).alloc (Nat.le_refl _) _).trans (hb.mono (by simp))) (Nat.le_refl _) _ _ _ _
/-! ### symbols -/
theorem plainElem_bool_inv {H : Type} {P : Program} {e : TypeId} (he : P.underlying e = some .bool) {v : Value} {z : DataW H × List MemPlace} (h : plainElem P e v = some z) : ∃ x, v = .bool x ∧ z = (.lit (.bool x), []) := by
 unfold plainElem at h
 rw [he] at h
 cases v <;> simp at h
 exact ⟨_, rfl, h.symm⟩
theorem wpList_lookup_own_boolAt {H : Type} {P : Program} (w : World) {ops : Array Oper} {rest : List Oper} {o : Oper} {a : Act} {Q : Exit → Act → World → Prop}
  (hg : o.guard = none) (m x : Operand) (t : TypeId) (hop : o.op = Op.lookup t m x false)
  (k e : TypeId) (K : Maps.Keyed P k) (ht : P.underlying t = some (.map k e)) (he : P.underlying e = some .bool) (hz : (zeroValue e).run P w = .ok (.bool false) w) (b n : Nat) (D : DataW H)
  (hm : a.eval m = .map (some b)) (hown : w.ownsMap P k (plainElem P e) b n D) (key : Value) (kl : Lit) (hx : a.eval x = key) (hkey : keyOf P k key = some kl)
  (c : Bool) (hat : D.atKey kl (.lit (.bool false)) = .lit (.bool c)) (hK : wpList P ops Q rest (a.put o.dst (.bool c)) w) :
  wpList P ops Q (o :: rest) a w := by
 refine wpList_plain hg fun K' hK' => ?_
 obtain ⟨v, ps, hrun, hv⟩ := hown.lookup K ht hz (plainElem_bool he false) hkey
 obtain ⟨y, rfl, hy⟩ := plainElem_bool_inv he hv
 simp only [Prod.mk.injEq] at hy
 have : y = c := by have := hy.1.symm.trans hat; simpa using this
 subst this
 unfold Oper.wp
 simp [execOp, hop, hm, hx, hrun, Result.andThen]
 exact hK' _ _ hK
theorem keyed9 : Maps.Keyed Tryz.prog 9 := Maps.string_keyed Tryz.underlying9
theorem zero4 (w : World) : (zeroValue 4).run Tryz.prog w = .ok (.bool false) w := by kernel_rfl
/-- the map of the symbols -/
def SymAt (w : World) (b : Nat) : Prop :=
 ∃ (m n : Nat) (D : DataW Unit), w.cell? ⟨b, 256, none⟩ = some (.map (some m)) ∧ m < w.heap.size ∧ w.ownsMap Tryz.prog 9 (plainElem Tryz.prog 4) m n D ∧
  ∀ l : List UInt8, D.atKey (.string l) (.lit (.bool false)) = .lit (.bool (Lx.isSym l))
end Go.Proofs.YtpdhiminpdmpiaaGreatDoor
