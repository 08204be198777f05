/-
  The lists of a module, in memory, while it is read.
-/
import Derived.Test.YtefihbhcdocgfaaGreatDoorZGF11
set_option linter.unusedVariables false
set_option linter.unusedSimpArgs false
set_option linter.unusedSectionVars false

namespace Go.Proofs.YtefihbhcdocgfaaGreatDoor
open Go.RowKit Go.Lib
open Lx (Tk)
open Px (Txt TyE VarD DataD TraitD BoundD ImplD ArgD ExprD StmtD ArmD FuncD ModD)

/-- no slice of a type occurs -/
def Q.no (E : Nat) : Q → Prop
  | .nil => True
  | .int _ r => r.no E
  | .str _ r => r.no E
  | .sl F _ _ q r => F ≠ E ∧ q.no E ∧ r.no E
theorem Q.no_app {E : Nat} : ∀ {x y : Q}, x.no E → y.no E → (x.app y).no E
  | .nil, y, _, h => h
  | .int n r, y, h, h' => Q.no_app (x := r) h h'
  | .str n r, y, h, h' => Q.no_app (x := r) h h'
  | .sl F s n q r, y, h, h' => ⟨h.1, h.2.1, Q.no_app (x := r) h.2.2 h'⟩
theorem no_rows {E : Nat} {α : Type} {f : α → Q} (h : ∀ a, (f a).no E) : ∀ l : List α, (rowsQ f l).no E
  | [] => trivial
  | a :: l => Q.no_app (h a) (no_rows h l)
theorem Rep.avoid {w : World} {N : Nat → Prop} {E g : Nat} {cur : Array Value} (hg : w.heap[g]? = some (.cells cur E (0, 0))) : ∀ {q : Q} {cs : List Value}, Rep w N q cs → q.no E → Rep w (fun k => N k ∧ k ≠ g) q cs
  | .nil, cs, h, _ => by rw [Rep] at *; exact h
  | .int n r, cs, h, hn => by
    rw [Rep] at *
    obtain ⟨c, e, h⟩ := h
    exact ⟨c, e, Rep.avoid hg h hn⟩
  | .str n r, cs, h, hn => by
    rw [Rep] at *
    obtain ⟨c, e, h⟩ := h
    exact ⟨c, e, Rep.avoid hg h hn⟩
  | .sl F s n q r, cs, h, hn => by
    rw [Rep] at *
    obtain ⟨v, c, e, h1, h⟩ := h
    refine ⟨v, c, e, ?_, Rep.avoid hg h hn.2.2⟩
    rcases h1 with ⟨a, b, hq⟩ | ⟨g', cap, cu, xs, a, b, hN, hg', c1, c2, c3, c4, c5, hq⟩
    · exact .inl ⟨a, b, Rep.avoid hg hq hn.2.1⟩
    · refine .inr ⟨g', cap, cu, xs, a, b, ⟨hN, ?_⟩, hg', c1, c2, c3, c4, c5, Rep.avoid hg hq hn.2.1⟩
      rintro rfl
      rw [hg] at hg'
      simp only [Option.some.injEq, Obj.cells.injEq] at hg'
      exact hn.1 hg'.2.1.symm

theorem ListAt.beside {w w' : World} {B E E' s n g : Nat} {q : Q} {v : Value} {cu : Array Value} (h : ListAt w B E s n q v) (hg : w.heap[g]? = some (.cells cu E' (0, 0))) (hE : E ≠ E') (hno : q.no E') (hgr : w.grownBy w' (some g)) : ListAt w' B E s n q v := by
  rcases h with h | ⟨g1, cap, cur, xs, a, b, c, d, e, f, i, j, k, hq⟩
  · exact .inl h
  · have hl : g1 < w.heap.size := (Array.getElem?_eq_some_iff.1 d).1
    have hne : g1 ≠ g := by
      rintro rfl
      rw [hg] at d
      simp only [Option.some.injEq, Obj.cells.injEq] at d
      exact hE d.2.1.symm
    refine .inr ⟨g1, cap, cur, xs, a, b, c, (hgr.block g1 hl (by simpa using hne)).trans d, e, f, i, j, k, (Rep.avoid hg hq hno).mono (fun k hk hl => ⟨hk.1, hgr.block k hl (by simpa using hk.2)⟩)⟩
theorem ListAt.still {w w' : World} {B E s n : Nat} {q : Q} {v : Value} (h : ListAt w B E s n q v) (hgr : w.grownBy w' none) : ListAt w' B E s n q v := by
  rcases h with h | ⟨g1, cap, cur, xs, a, b, c, d, e, f, i, j, k, hq⟩
  · exact .inl h
  · have hl : g1 < w.heap.size := (Array.getElem?_eq_some_iff.1 d).1
    exact .inr ⟨g1, cap, cur, xs, a, b, c, (hgr.block g1 hl (by simp)).trans d, e, f, i, j, k, hq.mono (fun k hk hl => ⟨hk, hgr.block k hl (by simp)⟩)⟩
theorem ListAt.side {w w' : World} {B E E' s s' n n' : Nat} {q q' : Q} {v v' : Value} (h : ListAt w B E s n q v) (h2 : ListAt w B E' s' n' q' v') (hE : E ≠ E') (hno : q.no E') (hgr : w.grownBy w' v'.ownBlock) : ListAt w' B E s n q v := by
  rcases h2 with ⟨rfl, _⟩ | ⟨g1, cap, cur, xs, rfl, b, c, d, _⟩
  · exact h.still (by simpa [Value.ownBlock] using hgr)
  · exact h.beside d hE hno (by simpa [Value.ownBlock] using hgr)

theorem rows_of {E : Nat} {α : Type} {f : α → Q} : ∀ (l : List α), (∀ a ∈ l, (f a).no E) → (rowsQ f l).no E
  | [], _ => trivial
  | a :: l, h => Q.no_app (h a (by simp)) (rows_of l (fun b hb => h b (by simp [hb])))
section
variable {E : Nat} (h1 : 9 ≠ E) (h2 : 62 ≠ E)
theorem no_str (t : Txt) : (strQ t).no E := trivial
include h1 in
theorem no_strs (l : List Txt) {r : Q} (hr : r.no E) : (strsQ l r).no E := ⟨h1, no_rows no_str l, hr⟩
include h2 in
theorem no_type : ∀ t : TyE, (typeQ t).no E
  | .mk x a o => by
    rw [typeQ_mk]
    refine ⟨h2, ?_, trivial⟩
    have : ∀ t ∈ a, (typeQ t).no E := fun t _ => no_type t
    exact rows_of a this
include h2 in
theorem no_types (l : List TyE) {r : Q} (hr : r.no E) : (typesS l r).no E := ⟨h2, no_rows (no_type h2) l, hr⟩
include h2 in
theorem no_var (v : VarD) : (varQ v).no E := no_types (r := .int v.off .nil) h2 v.fields trivial
theorem no_bound (v : BoundD) : (boundQ v).no E := trivial
include h1 h2 in
theorem no_data (h3 : 57 ≠ E) (d : DataD) : (dataQ d).no E :=
  no_strs h1 _ ⟨h3, no_rows (no_var h2) _, trivial⟩
theorem no_trait (d : TraitD) : (traitQ d).no E := trivial
theorem no_bounds (h3 : 144 ≠ E) (l : List BoundD) {r : Q} (hr : r.no E) : (boundsS l r).no E := ⟨h3, no_rows no_bound l, hr⟩
include h1 h2 in
theorem no_impl (h3 : 144 ≠ E) (d : ImplD) : (implQ d).no E :=
  no_strs h1 _ (no_bounds h3 _ (Q.no_app (no_type h2 _) trivial))
include h2 in
theorem no_arg (a : ArgD) : (argQ a).no E := Q.no_app (x := typeQ a.type) (no_type h2 _) trivial
include h2 in
theorem no_args (h3 : 70 ≠ E) (l : List ArgD) {r : Q} (hr : r.no E) : (argsS l r).no E := ⟨h3, no_rows (no_arg h2) l, hr⟩
include h1 h2 in
theorem no_expr (e : ExprD) : (exprQ e).no E := no_strs h1 _ (no_types h2 _ trivial)
end
/-- none of the types of what lies in functions -/
structure Far (E : Nat) : Prop where
  h1 : 9 ≠ E
  h2 : 62 ≠ E
  h3 : 144 ≠ E
  h4 : 70 ≠ E
  h5 : 75 ≠ E
  h6 : 151 ≠ E
  h7 : 68 ≠ E
mutual
theorem no_stmt {E : Nat} (h : Far E) : ∀ s : StmtD, (stmtQ s).no E
  | .mk k x l t e th el ar fn o => by
    rw [stmtQ_mk]
    exact no_strs h.h1 _ (no_types h.h2 _ (Q.no_app (no_expr h.h1 h.h2 e) ⟨h.h5, by rw [← stmtsQ_eq]; exact no_stmts h th, h.h5, by rw [← stmtsQ_eq]; exact no_stmts h el, h.h6, by rw [← armsQ_eq]; exact no_arms h ar, h.h7, by rw [← funcsQ_eq]; exact no_funcs h fn, trivial⟩))
theorem no_stmts {E : Nat} (h : Far E) : ∀ l : List StmtD, (stmtsQ l).no E
  | [] => by rw [stmtsQ]; trivial
  | s :: r => by rw [stmtsQ]; exact Q.no_app (no_stmt h s) (no_stmts h r)
theorem no_arm {E : Nat} (h : Far E) : ∀ s : ArmD, (armQ s).no E
  | .mk x l b o => by
    rw [armQ_mk]
    exact no_strs h.h1 _ ⟨h.h5, by rw [← stmtsQ_eq]; exact no_stmts h b, trivial⟩
theorem no_arms {E : Nat} (h : Far E) : ∀ l : List ArmD, (armsQ l).no E
  | [] => by rw [armsQ]; trivial
  | s :: r => by rw [armsQ]; exact Q.no_app (no_arm h s) (no_arms h r)
theorem no_func {E : Nat} (h : Far E) : ∀ s : FuncD, (funcQ s).no E
  | .mk x p bs c a t b o => by
    rw [funcQ_mk]
    exact no_strs h.h1 _ (no_bounds h.h3 _ (no_args h.h2 h.h4 _ (no_args h.h2 h.h4 _ (Q.no_app (no_type h.h2 t) ⟨h.h5, by rw [← stmtsQ_eq]; exact no_stmts h b, trivial⟩))))
theorem no_funcs {E : Nat} (h : Far E) : ∀ l : List FuncD, (funcsQ l).no E
  | [] => by rw [funcsQ]; trivial
  | s :: r => by rw [funcsQ]; exact Q.no_app (no_func h s) (no_funcs h r)
end

/-- the lists of a module that is being read -/
structure ModAt (w : World) (B : Nat) (M : ModD) (vu vd vt vi vf : Value) : Prop where
  u : ListAt w B 9 1 M.uses.length (rowsQ strQ M.uses) vu
  d : ListAt w B 54 5 M.datas.length (rowsQ dataQ M.datas) vd
  t : ListAt w B 59 2 M.traits.length (rowsQ traitQ M.traits) vt
  i : ListAt w B 64 8 M.impls.length (rowsQ implQ M.impls) vi
  f : ListAt w B 68 10 M.funcs.length (rowsQ funcQ M.funcs) vf
theorem ModAt.keep {w w' : World} {B : Nat} {M : ModD} {vu vd vt vi vf : Value} (h : ModAt w B M vu vd vt vi vf) {X : List Nat} (hf : Fr X w w') (hX : ∀ k ∈ X, k < B) : ModAt w' B M vu vd vt vi vf :=
  ⟨h.u.keep hf hX, h.d.keep hf hX, h.t.keep hf hX, h.i.keep hf hX, h.f.keep hf hX⟩

theorem ModAt.moreD {w w' : World} {B : Nat} {M : ModD} {vu vd vt vi vf v' : Value} {x : DataD} (h : ModAt w B M vu vd vt vi vf) (hg : w.grownBy w' vd.ownBlock)
    (hL : ListAt w' B 54 5 (M.datas.length + 1) ((rowsQ dataQ M.datas).app (dataQ x)) v') : ModAt w' B { M with datas := M.datas ++ [x] } vu v' vt vi vf :=
  ⟨h.u.side h.d (by decide) (no_rows no_str _) hg, by rw [List.length_append, rowsQ_snoc]; exact hL, h.t.side h.d (by decide) (no_rows no_trait _) hg,
    h.i.side h.d (by decide) (no_rows (no_impl (by decide) (by decide) (by decide)) _) hg, h.f.side h.d (by decide) (no_rows (no_func ⟨by decide, by decide, by decide, by decide, by decide, by decide, by decide⟩) _) hg⟩
theorem ModAt.moreT {w w' : World} {B : Nat} {M : ModD} {vu vd vt vi vf v' : Value} {x : TraitD} (h : ModAt w B M vu vd vt vi vf) (hg : w.grownBy w' vt.ownBlock)
    (hL : ListAt w' B 59 2 (M.traits.length + 1) ((rowsQ traitQ M.traits).app (traitQ x)) v') : ModAt w' B { M with traits := M.traits ++ [x] } vu vd v' vi vf :=
  ⟨h.u.side h.t (by decide) (no_rows no_str _) hg, h.d.side h.t (by decide) (no_rows (no_data (by decide) (by decide) (by decide)) _) hg, by rw [List.length_append, rowsQ_snoc]; exact hL,
    h.i.side h.t (by decide) (no_rows (no_impl (by decide) (by decide) (by decide)) _) hg, h.f.side h.t (by decide) (no_rows (no_func ⟨by decide, by decide, by decide, by decide, by decide, by decide, by decide⟩) _) hg⟩
theorem ModAt.moreI {w w' : World} {B : Nat} {M : ModD} {vu vd vt vi vf v' : Value} {x : ImplD} (h : ModAt w B M vu vd vt vi vf) (hg : w.grownBy w' vi.ownBlock)
    (hL : ListAt w' B 64 8 (M.impls.length + 1) ((rowsQ implQ M.impls).app (implQ x)) v') : ModAt w' B { M with impls := M.impls ++ [x] } vu vd vt v' vf :=
  ⟨h.u.side h.i (by decide) (no_rows no_str _) hg, h.d.side h.i (by decide) (no_rows (no_data (by decide) (by decide) (by decide)) _) hg, h.t.side h.i (by decide) (no_rows no_trait _) hg,
    by rw [List.length_append, rowsQ_snoc]; exact hL, h.f.side h.i (by decide) (no_rows (no_func ⟨by decide, by decide, by decide, by decide, by decide, by decide, by decide⟩) _) hg⟩
theorem ModAt.moreF {w w' : World} {B : Nat} {M : ModD} {vu vd vt vi vf v' : Value} {x : FuncD} (h : ModAt w B M vu vd vt vi vf) (hg : w.grownBy w' vf.ownBlock)
    (hL : ListAt w' B 68 10 (M.funcs.length + 1) ((rowsQ funcQ M.funcs).app (funcQ x)) v') : ModAt w' B { M with funcs := M.funcs ++ [x] } vu vd vt vi v' :=
  ⟨h.u.side h.f (by decide) (no_rows no_str _) hg, h.d.side h.f (by decide) (no_rows (no_data (by decide) (by decide) (by decide)) _) hg, h.t.side h.f (by decide) (no_rows no_trait _) hg,
    h.i.side h.f (by decide) (no_rows (no_impl (by decide) (by decide) (by decide)) _) hg, by rw [List.length_append, rowsQ_snoc]; exact hL⟩
theorem ModAt.moreU {w w' : World} {B : Nat} {M : ModD} {vu vd vt vi vf v' : Value} {x : Txt} (h : ModAt w B M vu vd vt vi vf) (h0 : M.datas = [] ∧ M.traits = [] ∧ M.impls = [] ∧ M.funcs = [])
    (hL : ListAt w' B 9 1 (M.uses.length + 1) ((rowsQ strQ M.uses).app (strQ x)) v') : ModAt w' B { M with uses := M.uses ++ [x] } v' vd vt vi vf := by
  obtain ⟨hu, hd, ht, hi, hf⟩ := h
  obtain ⟨e1, e2, e3, e4⟩ := h0
  rw [e1] at hd
  rw [e2] at ht
  rw [e3] at hi
  rw [e4] at hf
  have key : ∀ {E s : Nat} {v : Value}, ListAt w B E s 0 .nil v → v = .slice none 0 0 := fun h => by
    rcases h with ⟨h, _⟩ | ⟨_, _, _, _, _, h, _⟩
    · exact h
    · exact absurd rfl h
  refine ⟨by rw [List.length_append, rowsQ_snoc]; exact hL, ?_, ?_, ?_, ?_⟩
  · rw [e1]; exact .inl ⟨key hd, rfl, rfl⟩
  · rw [e2]; exact .inl ⟨key ht, rfl, rfl⟩
  · rw [e3]; exact .inl ⟨key hi, rfl, rfl⟩
  · rw [e4]; exact .inl ⟨key hf, rfl, rfl⟩

/-- what a call comes to that reads a module's items into a block -/
def RPM (c : Ctx) (b : Nat) (w0 : World) (r : Px.Res ModD) (e : Ending) (w' : World) : Prop :=
  Fr [c.R, b] w0 w' ∧
  match r with
  | .ok M ts => Inv c ts w' ∧ e = .returned (.tuple #[]) ∧ ∃ vu vd vt vi vf, Blk w' b 29 #[.string ⟨M.name.toArray⟩, vu, vd, vt, vi, vf] ∧ ModAt w' w0.heap.size M vu vd vt vi vf
  | .bad ts => Inv c ts w' ∧ e = .panicked [failE c ts]
theorem RPM.ok {c : Ctx} {b : Nat} {w0 w' : World} {r : Px.Res ModD} {M : ModD} {ts : List Tk} {vu vd vt vi vf : Value} (hr : r = .ok M ts) (h1 : Fr [c.R, b] w0 w') (h2 : Inv c ts w') (h3 : Blk w' b 29 #[.string ⟨M.name.toArray⟩, vu, vd, vt, vi, vf]) (h4 : ModAt w' w0.heap.size M vu vd vt vi vf) :
    RPM c b w0 r (.returned (.tuple #[])) w' := by
  subst hr; exact ⟨h1, h2, rfl, vu, vd, vt, vi, vf, h3, h4⟩
theorem RPM.bad {c : Ctx} {b : Nat} {w0 w' : World} {r : Px.Res ModD} {ts : List Tk} (hr : r = .bad ts) (h1 : Fr [c.R, b] w0 w') (h2 : Inv c ts w') : RPM c b w0 r (.panicked [failE c ts]) w' := by
  subst hr; exact ⟨h1, h2, rfl⟩
theorem expect_mem {ws : List Txt} {ts r : List Tk} {x : Txt} (h : Px.expect ws ts = .ok x r) : x ∈ ws := by
  simp only [Px.expect] at h
  split at h
  · rename_i hc; cases h; simpa using hc
  · cases h
theorem expect_len {ws : List Txt} {ts r : List Tk} {x : Txt} (h : Px.expect ws ts = .ok x r) (hne : ws.contains [] = false) : r.length < ts.length := by
  simp only [Px.expect] at h
  split at h
  · rename_i hc
    cases h
    cases ts with
    | nil => simp only [Px.word] at hc; rw [hne] at hc; cases hc
    | cons t r => simp
  · cases h
end Go.Proofs.YtefihbhcdocgfaaGreatDoor
