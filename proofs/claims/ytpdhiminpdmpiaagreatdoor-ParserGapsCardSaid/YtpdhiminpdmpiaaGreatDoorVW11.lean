/-
 The walk of Lex.
-/
import Derived.Test.YtpdhiminpdmpiaaGreatDoorVW10
import Derived.Test.YtpdhiminpdmpiaaGreatDoorVW7
set_option linter.unusedVariables false
set_option linter.unusedSimpArgs false
set_option linter.unusedSectionVars false
set_option linter.unusedVariables false
set_option linter.unusedSimpArgs false
set_option linter.unusedSectionVars false
namespace Go.Proofs.YtpdhiminpdmpiaaGreatDoor
open Go.RowKit Go.Shelf
attribute [local go_sem] Oper.semAt_some
/-- what a call of the lexer needs of the world: two variables of the library -/
def Libs (w : World) : Prop := Lib.TabIs Tryz.prog w "strings.asciiSpace" .u8 Lib.asciiSpaceTab ∧ ErrAt w
theorem Libs.below {w w' : World} {B : Nat} (h : Libs w) (hb : Below B w w') (hB : w.heap.size ≤ B) : Libs w' :=
 ⟨Joins.tab_stays (g := 0) (by kernel_rfl) h.1 hb hB, h.2.below hb hB⟩
def okAll (pre : List Lx.Yd) : Prop := pre.length ≤ 6000 ∧ ∀ y ∈ pre, y.err = 0
def lexV (r : List Lx.Tk × Nat × Nat) (v : Value) : Value := .tuple #[v, .int .i64 r.2.1, .int .i64 r.2.2]
def LexPost (w : World) (r : List Lx.Tk × Nat × Nat) (e : Ending) (w' : World) : Prop :=
 ∃ v, e = .returned (lexV r v) ∧ w'.ownsRow w.heap.size 45 4 v r.1.length (tksCells r.1) ∧ (r.1 = [] → v = .slice none 0 0) ∧ Below w.heap.size w w'
theorem collect_ok (q : List Lx.Yd) : ∀ (n : Nat) (r : List Lx.Yd) (acc : List Lx.Tk), n + q.length ≤ 6000 → (∀ y ∈ q, y.err = 0) → Lx.collect n (q ++ r) acc = Lx.collect (n + q.length) r (acc ++ q.map (·.tk)) := by
 induction q with
 | nil => intro n r acc _ _; simp
 | cons y q ih =>
  intro n r acc hn hq
  have h0 : y.err = 0 := hq y (by simp)
  simp only [List.length_cons] at hn
  rw [List.cons_append, Lx.collect, if_neg (by omega), if_neg (by omega), ih (n + 1) r _ (by omega) (fun z hz => hq z (by simp [hz]))]
  simp only [List.length_cons, List.map_cons, List.append_assoc, List.cons_append, List.nil_append]
  rw [show n + 1 + q.length = n + (q.length + 1) from by omega]
theorem collect_done (ys : List Lx.Yd) (h : okAll ys) : Lx.collect 0 ys [] = (ys.map (·.tk), 0, 0) := by
 have := collect_ok ys 0 [] [] (by have := h.1; omega) h.2
 rw [List.append_nil] at this
 rw [this]; simp [Lx.collect]
def Stops (pre : List Lx.Yd) (er off : Nat) : Prop := ∃ q y, pre = q ++ [y] ∧ okAll q ∧ ((y.err ≠ 0 ∧ er = y.err) ∨ (y.err = 0 ∧ q.length = 6000 ∧ er = 2)) ∧ off = y.tk.off
theorem collect_stop (ys pre : List Lx.Yd) (er off : Nat) (hp : pre <+: ys) (h : Stops pre er off) : Lx.collect 0 ys [] = ([], er, off) := by
 obtain ⟨q, y, rfl, hq, hc, rfl⟩ := h
 obtain ⟨r, rfl⟩ := hp
 rw [List.append_assoc, collect_ok q 0 _ [] (by have := hq.1; omega) hq.2, List.cons_append, Lx.collect]
 rcases hc with ⟨h1, rfl⟩ | ⟨h1, h2, rfl⟩
 ·rw [if_pos h1]
 ·rw [if_neg (by omega), if_pos (by omega)]
/-- what the caller's variables hold between two rounds -/
structure LxInv (n0 nb : Nat) (w : World) (pre : List Lx.Yd) (W : World) : Prop where
 list : ∃ v, Boxed W (n0 + 1 + 1 + 1) 36 v ∧ W.ownsRow nb 45 4 v pre.length (tksCells (pre.map (·.tk))) ∧ (pre.length = 0 → v = .slice none 0 0)
 r2 : Boxed W n0 36 (.slice none 0 0)
 r3 : Boxed W (n0 + 1) 30 (.int .i64 0)
 r4 : Boxed W (n0 + 1 + 1) 3 (.int .i64 0)
 below : Below n0 w W
 ok : okAll pre
 room : nb ≤ W.heap.size
/-- .. and where a round has left the function -/
structure InvX (n0 : Nat) (w : World) (pre : List Lx.Yd) (W : World) (er off : Nat) : Prop where
 r2 : Boxed W n0 36 (.slice none 0 0)
 r3 : Boxed W (n0 + 1) 30 (.int .i64 er)
 r4 : Boxed W (n0 + 1 + 1) 3 (.int .i64 off)
 below : Below n0 w W
 stops : Stops pre er off
theorem boxed_keep {X Y : World} {row : Option Nat} {b : Nat} {t : TypeId} {v : Value} (h : Boxed X b t v) (hg : X.grownBy Y row) (hr : ∀ r, row = some r → ∃ o : Obj, X.heap[r]? = some o ∧ o.isCells = false) : Boxed Y b t v :=
 h.kept hg (fun e' => by
  obtain ⟨o, ho, hc⟩ := hr b e'.symm
  rw [show X.heap[b]? = _ from h] at ho; cases ho; cases hc)
theorem row_keep {X Y : World} {row : Option Nat} {base k : Nat} {v : Value} {xs : List Value} (h : X.ownsRow base 45 4 v k xs) (hg : X.grownBy Y row) (hr : ∀ r, row = some r → ∃ o : Obj, X.heap[r]? = some o ∧ o.isCells = false) : Y.ownsRow base 45 4 v k xs := by
 refine h.kept hg ?_
 rcases h.2 with ⟨rfl, _⟩ | ⟨g, cap, cur, rfl, _, hgb, _⟩
 ·exact .inl rfl
 ·refine .inr fun e' => ?_
  obtain ⟨o, ho, hc⟩ := hr g (by simpa [Value.ownBlock] using e'.symm)
  rw [hgb] at ho; cases ho; cases hc
theorem LxInv.own {n0 nb B : Nat} {w : World} (hn : n0 ≤ w.heap.size) (hB : n0 ≤ B) : OwnFrom B (LxInv n0 nb w) := fun s X Y row hs hg hr => by
 have hr' : ∀ r, row = some r → ∃ o : Obj, X.heap[r]? = some o ∧ o.isCells = false := fun r e => (hr r e).2
 obtain ⟨v, h1, h2, h3⟩ := hs.list
 exact ⟨⟨v, boxed_keep h1 hg hr', row_keep h2 hg hr', h3⟩, boxed_keep hs.r2 hg hr', boxed_keep hs.r3 hg hr', boxed_keep hs.r4 hg hr', ownFrom_below (β := Unit) hn hB () X Y row hs.below hg hr, hs.ok, Nat.le_trans hs.room hg.size⟩
theorem InvX.own {n0 B : Nat} {w : World} (hn : n0 ≤ w.heap.size) (hB : n0 ≤ B) (c : Code) : OwnFrom B (fun pre W => c = .ret ∧ ∃ er off, InvX n0 w pre W er off) := fun s X Y row hs hg hr => by
 have hr' : ∀ r, row = some r → ∃ o : Obj, X.heap[r]? = some o ∧ o.isCells = false := fun r e => (hr r e).2
 obtain ⟨hc, er, off, hs⟩ := hs
 exact ⟨hc, er, off, boxed_keep hs.r2 hg hr', boxed_keep hs.r3 hg hr', boxed_keep hs.r4 hg hr', ownFrom_below (β := Unit) hn hB () X Y row hs.below hg hr, hs.stops⟩
theorem LxInv.alloc {n0 nb : Nat} {w : World} {pre : List Lx.Yd} {W : World} (hn : n0 ≤ w.heap.size) (h : LxInv n0 nb w pre W) (o : Obj) : LxInv n0 nb w pre (W.alloc o) :=
 LxInv.own hn (Nat.le_refl _) pre W _ none h (World.grownBy_alloc W o none) (fun r e => by cases e)
/-- the block of the loop's variable -/
def TokBox (W : World) (B : Nat) (y : Lx.Yd) : Prop := W.heap[B]? = some (.cells #[.int .i64 y.tk.kind, .string ⟨y.tk.text.toArray⟩, .int .i64 y.tk.num, .int .i64 y.tk.off] 45 (0, 0))
theorem TokBox.lt {W : World} {B : Nat} {y : Lx.Yd} (h : TokBox W B y) : B < W.heap.size := (Array.getElem?_eq_some_iff.1 h).1
theorem TokBox.ne {W : World} {B C : Nat} {y : Lx.Yd} {t : TypeId} {v : Value} (h : TokBox W B y) (h' : Boxed W C t v) : B ≠ C := fun e => by
 subst e
 have := (show W.heap[B]? = _ from h).symm.trans h'
 simp at this
theorem TokBox.cell {W : World} {B : Nat} {y : Lx.Yd} (h : TokBox W B y) (i : Nat) : W.cell? ⟨B, i, none⟩ = #[Value.int .i64 y.tk.kind, .string ⟨y.tk.text.toArray⟩, .int .i64 y.tk.num, .int .i64 y.tk.off][i]? := by simp [World.cell?, show W.heap[B]? = _ from h]
theorem boxed_other {W : World} {b c : Nat} {t : TypeId} {v : Value} (u : Value) (h : Boxed W b t v) (hne : b ≠ c) : Boxed (W.setCell ⟨c, 0, none⟩ u) b t v :=
 h.kept (grownBy_setCell' W c u) (by simpa using hne)
theorem LxInv.stop {n0 nb : Nat} {w : World} {pre : List Lx.Yd} {W : World} (h : LxInv n0 nb w pre W) (y : Lx.Yd) (er : Nat) (hs : Stops (pre ++ [y]) er y.tk.off) :
  InvX n0 w (pre ++ [y]) (((W.setCell ⟨n0, 0, none⟩ (.slice none 0 0)).setCell ⟨n0 + 1, 0, none⟩ (.int .i64 er)).setCell ⟨n0 + 1 + 1, 0, none⟩ (.int .i64 y.tk.off)).drew er y.tk.off := by
 refine ⟨?_, ?_, ?_, ?_, hs⟩
 ·exact boxed_other _ (boxed_other _ (h.r2.set _) (by omega)) (by omega)
 ·exact boxed_other _ ((boxed_other _ h.r3 (by omega)).set _) (by omega)
 ·exact (boxed_other _ (boxed_other _ h.r4 (by omega)) (by omega)).set _
 ·exact (((h.below.setCell (p := ⟨n0, 0, none⟩) (Nat.le_refl _) _).setCell (p := ⟨n0 + 1, 0, none⟩) (by simp) _).setCell (p := ⟨n0 + 1 + 1, 0, none⟩) (by simp; omega) _).drew
theorem stop_keeps (B n0 : Nat) (W : World) (a b c : Value) : KeepsFrom B W (((W.setCell ⟨n0, 0, none⟩ a).setCell ⟨n0 + 1, 0, none⟩ b).setCell ⟨n0 + 1 + 1, 0, none⟩ c).drew :=
 ((((KeepsOthers.setCell W _ _).trans (KeepsOthers.setCell _ _ _)).trans (KeepsOthers.setCell _ _ _)).trans (KeepsOthers.drew _)).from B
theorem row_shape {W : World} {base k : Nat} {v : Value} {xs : List Value} (h : W.ownsRow base 45 4 v k xs) : ∃ a cap, v = .slice a k cap := by
 rcases h.2 with ⟨rfl, rfl⟩ | ⟨g, cap, _, rfl, _⟩
 ·exact ⟨none, 0, rfl⟩
 ·exact ⟨_, cap, rfl⟩
theorem row_mono {W : World} {base base' k : Nat} {v : Value} {xs : List Value} (h : W.ownsRow base 45 4 v k xs) (hb : base' ≤ base) : W.ownsRow base' 45 4 v k xs := by
 refine ⟨h.1, ?_⟩
 rcases h.2 with h | ⟨g, cap, cur, e1, e2, e3⟩
 ·exact .inl h
 ·exact .inr ⟨g, cap, cur, e1, by omega, e3⟩
/-- behind an append to the list and the store of what it gives -/
theorem LxInv.append {n0 nb : Nat} {w : World} {pre : List Lx.Yd} {W w1 : World} {y : Lx.Yd} {v v' : Value} {row : Option Nat} {tmp : Obj}
  (hn : n0 ≤ w.heap.size) (hnb : n0 + 1 + 1 + 1 < nb) (h : LxInv n0 nb w pre W) (hbox : Boxed W (n0 + 1 + 1 + 1) 36 v) (hlt : pre.length < 6000) (he : y.err = 0)
  (hown : w1.ownsRow nb 45 4 v' (pre.length + 1) (tksCells (pre.map (·.tk)) ++ tkCells y.tk)) (hg : (W.alloc tmp).grownBy w1 row)
  (hr : ∀ r, row = some r → nb ≤ r ∧ ∃ cur, (W.alloc tmp).heap[r]? = some (.cells cur 45 (0, 0)) ∧ 2 * 4 ≤ cur.size) :
  Boxed w1 (n0 + 1 + 1 + 1) 36 v ∧ LxInv n0 nb w (pre ++ [y]) (w1.setCell ⟨n0 + 1 + 1 + 1, 0, none⟩ v') ∧ KeepsOthers W (w1.setCell ⟨n0 + 1 + 1 + 1, 0, none⟩ v') ∧
   ∀ K : Nat → Prop, (∀ k, K k → k < nb ∧ k ≠ n0 + 1 + 1 + 1) → KP K W (w1.setCell ⟨n0 + 1 + 1 + 1, 0, none⟩ v') := by
 have hne : ∀ b, b < nb → some b ≠ row := fun b hb e => by have := (hr b e.symm).1; omega
 have hv1 : Boxed w1 (n0 + 1 + 1 + 1) 36 v := (hbox.alloc tmp).kept hg (hne _ hnb)
 have k2 : Boxed w1 n0 36 (.slice none 0 0) := (h.r2.alloc tmp).kept hg (hne _ (by omega))
 have k3 : Boxed w1 (n0 + 1) 30 (.int .i64 0) := (h.r3.alloc tmp).kept hg (hne _ (by omega))
 have k4 : Boxed w1 (n0 + 1 + 1) 3 (.int .i64 0) := (h.r4.alloc tmp).kept hg (hne _ (by omega))
 have hB1 : Below n0 w w1 := (h.below.alloc (by have := h.below.size; omega) tmp).grown hg (by have := h.below.size; simp; omega) (fun k e => by have := (hr k e).1; omega)
 refine ⟨hv1, ⟨⟨v', hv1.set v', ?_, fun h0 => by simp at h0⟩, boxed_other _ k2 (by omega), boxed_other _ k3 (by omega), boxed_other _ k4 (by omega), hB1.setCell (p := ⟨n0 + 1 + 1 + 1, 0, none⟩) (by simp; omega) _, ?_, ?_⟩, ?_, ?_⟩
 ·have := hown.kept (grownBy_setCell' w1 (n0 + 1 + 1 + 1) v') (.inr (hv1.not_row (by decide) hown).symm)
  simpa [tksCells_snoc] using this
 ·refine ⟨by simp; omega, fun z hz => ?_⟩
  rcases List.mem_append.1 hz with hz | hz
  ·exact h.ok.2 z hz
  ·simp at hz; rw [hz]; exact he
 ·have h1 := h.room
  have h2 := hg.size
  simp at h2 ⊢; omega
 ·refine ((KeepsOthers.alloc W tmp).trans (KeepsOthers.of_grownBy hg fun j o ej hj => ?_)).trans (KeepsOthers.setCell _ _ _)
  obtain ⟨_, cur, hc, _⟩ := hr j ej
  rw [hc] at hj; cases hj; rfl
 ·intro K hK
  refine ⟨by have h2 := hg.size; simp at h2 ⊢; omega, fun k o ho hk => ?_⟩
  have hlt' : k < W.heap.size := (Array.getElem?_eq_some_iff.1 ho).1
  have hne3 : k ≠ n0 + 1 + 1 + 1 := by
   rcases hk with hk | ⟨c, rfl, _⟩
   ·exact (hK k hk).2
   ·intro e; subst e
    have := (show W.heap[n0 + 1 + 1 + 1]? = _ from hbox).symm.trans ho
    simp at this
  have hner : some k ≠ row := by
   rcases hk with hk | ⟨c, rfl, hc⟩
   ·exact hne k (hK k hk).1
   ·intro e
    obtain ⟨_, cur, hcur, hsz⟩ := hr k e.symm
    rw [Below.heap_alloc _ _ _ hlt', ho] at hcur
    injection hcur with hcur
    injection hcur with hcur _ _
    subst hcur
    omega
  have e1 := hg.block k (by simp; omega) hner
  rw [Below.heap_setCell _ _ _ _ hne3, e1, Below.heap_alloc _ _ _ hlt']
  exact ho
theorem tk_new (w : World) (t : Lx.Tk) (j : Nat) (u : Value) (hj : (tkCells t)[j]? = some u) : (w.alloc (.cells #[.int .i64 t.kind, .string ⟨t.text.toArray⟩, .int .i64 t.num, .int .i64 t.off] 45)).cell? ((⟨w.heap.size, 0, none⟩ : Addr).add j) = some u := by
 have e : ((⟨w.heap.size, 0, none⟩ : Addr).add j) = ⟨w.heap.size, 0 + j, none⟩ := by unfold Addr.add; split <;> simp_all
 rw [e, Nat.zero_add, World.cell?_alloc_new]
 simpa [tkCells] using hj
end Go.Proofs.YtpdhiminpdmpiaaGreatDoor
