/-
 The offsets of what is read are offsets of tokens.
-/
import Derived.Test.YtpdhiminpdmpiaaGreatDoorVBF
import Derived.Test.YtpdhiminpdmpiaaGreatDoorVGP0
import Derived.Test.YtpdhiminpdmpiaaGreatDoorVS
set_option linter.unusedVariables false
set_option linter.unusedSimpArgs false
set_option linter.unusedSectionVars false
set_option linter.unusedVariables false
set_option linter.unusedSimpArgs false
set_option linter.unusedSectionVars false
namespace Go.Proofs.YtpdhiminpdmpiaaGreatDoor
open Lx (Tk)
open Px (Txt TyE VarD DataD TraitD BoundD ImplD ArgD ExprD StmtD ArmD FuncD ModD)
theorem bind_ok {α β : Type} {p : Px.Rd α} {f : α → Px.Rd β} {ts r : List Tk} {b : β} (h : (p >>= f) ts = .ok b r) : ∃ a s, p ts = .ok a s ∧ f a s = .ok b r := by
 change Px.Rd.bind p f ts = _ at h
 unfold Px.Rd.bind at h
 cases hq : p ts with
 | ok a s => rw [hq] at h; exact ⟨a, s, rfl, h⟩
 | bad s => rw [hq] at h; cases h
theorem pure_ok {α : Type} {a b : α} {ts r : List Tk} (h : (Pure.pure a : Px.Rd α) ts = .ok b r) : a = b ∧ ts = r := by
 change Px.Res.ok a ts = .ok b r at h
 cases h; exact ⟨rfl, rfl⟩
/-- what is handed back, whatever is read -/
def Ret {α : Type} (P : α → Prop) (p : Px.Rd α) : Prop := ∀ ts a r, p ts = .ok a r → P a
theorem Ret.bind {α β : Type} {P : β → Prop} {p : Px.Rd α} {f : α → Px.Rd β} (hf : ∀ a, Ret P (f a)) : Ret P (p >>= f) := by
 intro ts b r h
 obtain ⟨a, s, _, h2⟩ := bind_ok h
 exact hf a s b r h2
theorem Ret.pure {α : Type} {P : α → Prop} {a : α} (h : P a) : Ret P (Pure.pure a : Px.Rd α) := by
 intro ts b r hb
 rw [← (pure_ok hb).1]; exact h
theorem Ret.ite {α : Type} {P : α → Prop} {c : Prop} [Decidable c] {p q : Px.Rd α} (h : Ret P p) (h' : Ret P q) : Ret P (if c then p else q) := by
 split
 ·exact h
 ·exact h'
theorem Ret.refuse {α : Type} {P : α → Prop} : Ret P (Px.refuse : Px.Rd α) := fun _ _ _ h => by cases h
def soff : StmtD → Nat
 | .mk _ _ _ _ _ _ _ _ _ o => o
theorem name_head {ts s : List Tk} {x : Txt} (h : Px.name ts = .ok x s) : ∃ t, ts = t :: s ∧ x = t.text := by
 cases ts with
 | nil => cases h
 | cons t r =>
  simp only [Px.name] at h
  split at h
  ·cases h; exact ⟨t, rfl, rfl⟩
  ·cases h
section
variable {α : Type} {p : Px.Rd α} {R : Tk → α → Prop} (hs : Suf p) (hp : ∀ ts a r, p ts = .ok a r → ∃ t ∈ ts, R t a)
end
/-- offsets that increase, from a bound on -/
def Inc : Nat → List StmtD → Prop
 | _, [] => True
 | lo, s :: r => lo < soff s ∧ Inc (soff s) r
abbrev Sorted (ts : List Tk) : Prop := ts.Pairwise (fun a b => a.off < b.off)
def GoodD (S : List Tk) (d : DataD) : Prop := (∃ t ∈ S, t.off = d.off ∧ t.text = [100, 97, 116, 97]) ∧ ∀ v ∈ d.variants, ∃ t ∈ S, t.off = v.off ∧ t.text = v.name
def GoodT (S : List Tk) (d : TraitD) : Prop := ∃ t ∈ S, t.off = d.off ∧ t.text = [116, 114, 97, 105, 116]
def GoodI (S : List Tk) (d : ImplD) : Prop := ∃ t ∈ S, t.off = d.off ∧ t.text = [105, 109, 112, 108]
def fargs : FuncD → List ArgD
 | .mk _ _ _ _ a _ _ _ => a
def fbody : FuncD → List StmtD
 | .mk _ _ _ _ _ _ b _ => b
def foff : FuncD → Nat
 | .mk _ _ _ _ _ _ _ o => o
def GoodF (S : List Tk) (d : FuncD) : Prop := (∃ t ∈ S, t.off = foff d ∧ t.text = [102, 110]) ∧ (∀ a ∈ fargs d, ∃ t ∈ S, t.off = a.off ∧ t.text = a.name) ∧ (∀ s ∈ fbody d, ∃ t ∈ S, t.off = soff s) ∧ Inc (foff d) (fbody d)
structure GoodM (S : List Tk) (M : ModD) : Prop where
 d : ∀ x ∈ M.datas, GoodD S x
 t : ∀ x ∈ M.traits, GoodT S x
 i : ∀ x ∈ M.impls, GoodI S x
 f : ∀ x ∈ M.funcs, GoodF S x
theorem lex_sorted {l : List UInt8} {ts : List Tk} {a : Nat} (h : Lx.lexL l = (ts, 0, a)) : Sorted ts := by
 obtain ⟨_, _, _, h4⟩ := Lx.lex_chain l (by rw [h])
 rw [h] at h4
 simp only at h4
 unfold Sorted
 rw [List.pairwise_iff_getElem]
 intro i j hi hj hij
 have hs : ts = ts.take j ++ ts[j] :: ts.drop (j + 1) := by
  rw [← List.drop_eq_getElem_cons hj, List.take_append_drop]
 have h5 := h4
 rw [hs] at h5
 obtain ⟨i1, _, _⟩ := Lx.chain_split l _ _ _ _ h5
 have hm : ts[i] ∈ ts.take j := by
  rw [List.mem_take_iff_getElem]
  exact ⟨i, by omega, rfl⟩
 have h6 := i1 _ hm
 obtain ⟨_, _, _, c4, _⟩ := Lx.chain_at l _ _ i ts[i] h4 (List.getElem?_eq_getElem hi)
 omega
end Go.Proofs.YtpdhiminpdmpiaaGreatDoor
/-
 The cells of a row of data with depth.
-/
set_option linter.unusedVariables false
set_option linter.unusedSimpArgs false
set_option linter.unusedSectionVars false
namespace Go.Proofs.YtpdhiminpdmpiaaGreatDoor
open Go.RowKit Go.Lib
open Lx (Tk)
open Px (Txt TyE VarD DataD TraitD BoundD ImplD ArgD ExprD StmtD ArmD FuncD ModD)
theorem place_of {ts : List Tk} (hs : Sorted ts) {i : Nat} {t : Tk} (h : ts[i]? = some t) : placeL ts (t.off : Int) = i := by
 obtain ⟨hi, he⟩ := List.getElem?_eq_some_iff.1 h
 unfold placeL
 rw [List.findIdx_eq hi]
 refine ⟨by simp [he], fun j hj => ?_⟩
 have := List.pairwise_iff_getElem.1 hs j i (by omega) hi hj
 rw [he] at this
 rw [beq_eq_false_iff_ne]
 omega
theorem placeL_lt {ts : List Tk} (hs : Sorted ts) {o : Nat} (h : ∃ t ∈ ts, t.off = o) : placeL ts (o : Int) < ts.length := by
 obtain ⟨t, ht, rfl⟩ := h
 obtain ⟨i, hi, he⟩ := List.getElem_of_mem ht
 have h2 : ts[i]? = some t := by rw [List.getElem?_eq_getElem hi, he]
 rw [place_of hs h2]; exact hi
/-- the cells of a row among rows -/
theorem rows_get {α : Type} {f : α → Q} {w : World} {N : Nat → Prop} {sz : Nat} (hsz : ∀ a, (f a).len = sz) : ∀ (l : List α) (cs : List Value) (i : Nat) (a : α), Rep w N (rowsQ f l) cs → l[i]? = some a → ∃ ds, Rep w N (f a) ds ∧ ds.length = sz ∧ ∀ j, j < sz → cs[i * sz + j]? = ds[j]?
 | [], _, _, _, _, h => by simp at h
 | b :: l, cs, i, a, hr, h => by
  rw [rowsQ] at hr
  obtain ⟨x, y, rfl, h1, h2⟩ := hr.split
  have hx : x.length = sz := by rw [h1.len, hsz]
  cases i with
  | zero =>
   simp at h; subst h
   refine ⟨x, h1, hx, fun j hj => ?_⟩
   rw [Nat.zero_mul, Nat.zero_add, List.getElem?_append_left (by omega)]
  | succ i =>
   simp at h
   obtain ⟨ds, g1, g2, g3⟩ := rows_get hsz l y i a h2 h
   refine ⟨ds, g1, g2, fun j hj => ?_⟩
   rw [List.getElem?_append_right (by rw [hx, Nat.succ_mul]; omega), hx]
   rw [← g3 j hj]
   congr 1
   rw [Nat.succ_mul]; omega
theorem RowV.shape {w : World} {N : Nat → Prop} {E s n : Nat} {q : Q} {v : Value} (h : RowV w N E s n q v) : ∃ p c, v = .slice p n c := by
 rcases h with ⟨rfl, rfl, _⟩ | ⟨g, cap, cur, xs, rfl, _⟩
 ·exact ⟨_, _, rfl⟩
 ·exact ⟨_, _, rfl⟩
theorem type_shape {w : World} {N : Nat → Prop} {t : TyE} {cs : List Value} (h : Rep w N (typeQ t) cs) : ∃ s p n c o, cs = [.string s, .slice p n c, .int .i64 o] := by
 cases t with
 | mk x a o =>
  rw [typeQ_mk, rep_str] at h
  obtain ⟨c1, rfl, h⟩ := h
  rw [typesS, rep_sl] at h
  obtain ⟨v, c2, rfl, hv, h⟩ := h
  obtain ⟨p, c, rfl⟩ := hv.shape
  rw [rep_int] at h
  obtain ⟨c3, rfl, h⟩ := h
  rw [rep_nil] at h
  subst h
  exact ⟨_, _, _, _, _, rfl⟩
/-- the cells of a function -/
def fcells (x : ByteArray) (p1 : Option Addr) (n1 c1 : Nat) (p2 : Option Addr) (n2 c2 : Nat) (p3 : Option Addr) (n3 c3 : Nat) (p4 : Option Addr) (n4 c4 : Nat) (y : ByteArray) (p5 : Option Addr) (n5 c5 : Nat) (o : Int) (p6 : Option Addr) (n6 c6 : Nat) (q : Int) : List Value :=
 [.string x, .slice p1 n1 c1, .slice p2 n2 c2, .slice p3 n3 c3, .slice p4 n4 c4, .string y, .slice p5 n5 c5, .int .i64 o, .slice p6 n6 c6, .int .i64 q]
theorem mod_cells {w : World} {N : Nat → Prop} {M : ModD} {cs : List Value} (h : Rep w N (modQ M) cs) : ∃ x p d t i f, cs = [.string x, p, d, t, i, f] ∧ RowV w N 65 5 M.datas.length (rowsQ dataQ M.datas) d ∧ RowV w N 61 2 M.traits.length (rowsQ traitQ M.traits) t ∧
  RowV w N 89 8 M.impls.length (rowsQ implQ M.impls) i ∧ RowV w N 54 10 M.funcs.length (rowsQ funcQ M.funcs) f := by
 rw [modQ, rep_str] at h
 obtain ⟨c1, rfl, h⟩ := h
 rw [strsQ, rep_sl] at h
 obtain ⟨u, c2, rfl, _, h⟩ := h
 rw [rep_sl] at h
 obtain ⟨u2, c3, rfl, h1, h⟩ := h
 rw [rep_sl] at h
 obtain ⟨u3, c4, rfl, h2, h⟩ := h
 rw [rep_sl] at h
 obtain ⟨u4, c5, rfl, h3, h⟩ := h
 rw [rep_sl] at h
 obtain ⟨u5, c6, rfl, h4, h⟩ := h
 rw [rep_nil] at h
 subst h
 exact ⟨_, _, _, _, _, _, rfl, h1, h2, h3, h4⟩
/-- the cells of the element i of a row that data came in -/
theorem row_at {α : Type} {f : α → Q} {w : World} {N : Nat → Prop} {E s : Nat} {l : List α} {v : Value} {i : Nat} {a : α} (h : RowV w N E s l.length (rowsQ f l) v) (hsz : ∀ a, (f a).len = s) (hi : l[i]? = some a) :
  ∃ g cap ds, v = .slice (some ⟨g, 0, none⟩) l.length cap ∧ g < w.heap.size ∧ l.length ≤ cap ∧ cap ≤ maxLen ∧ Rep w N (f a) ds ∧ ∀ j, j < s → w.cell? ⟨g, i * s + j, none⟩ = ds[j]? := by
 have hl : i < l.length := by
  rcases Nat.lt_or_ge i l.length with h | h
  ·exact h
  ·rw [List.getElem?_eq_none h] at hi; cases hi
 obtain ⟨g, cap, xs, rfl, _, hg, hc, hm, _, hx, hr⟩ := h.get (by omega)
 obtain ⟨ds, k1, k2, k3⟩ := rows_get hsz l xs i a hr hi
 refine ⟨g, cap, ds, rfl, hg, hc, hm, k1, fun j hj => ?_⟩
 have hb : i * s + j < l.length * s := by
  have h1 : i * s + s ≤ l.length * s := by rw [← Nat.succ_mul]; exact Nat.mul_le_mul_right _ hl
  omega
 rw [hx _ hb, k3 j hj]
end Go.Proofs.YtpdhiminpdmpiaaGreatDoor
/-
 What is read has not more facts than thirty times the tokens that it took.
-/
set_option linter.unusedVariables false
set_option linter.unusedSimpArgs false
set_option linter.unusedSectionVars false
namespace Go.Proofs.YtpdhiminpdmpiaaGreatDoor
open Lx (Tk)
open Px (Txt TyE VarD DataD TraitD BoundD ImplD ArgD ExprD StmtD ArmD FuncD ModD)
/-- reading pays: what is handed back weighs at most thirty for each token taken, and the credit -/
def Wt {α : Type} (c : Int) (f : α → Int) (p : Px.Rd α) : Prop := ∀ ts a r, p ts = .ok a r → f a + 30 * (r.length : Int) ≤ 30 * (ts.length : Int) + c
section
variable {α β : Type} {c n : Int} {f : β → Int} {g : α → Int}
theorem Wt.bind {p : Px.Rd α} {q : α → Px.Rd β} (hp : Wt n g p) (hq : ∀ a, Wt (c - n + g a) f (q a)) : Wt c f (p >>= q) := by
 intro ts b r h
 obtain ⟨a, s, h1, h2⟩ := bind_ok h
 have := hp _ _ _ h1
 have := hq _ _ _ _ h2
 (try dsimp only); omega
theorem Wt.pure {b : β} (h : f b ≤ c) : Wt c f (Pure.pure b : Px.Rd β) := by
 intro ts a r hb
 obtain ⟨rfl, rfl⟩ := pure_ok hb
 (try dsimp only); omega
theorem Wt.ite {k : Prop} [Decidable k] {p q : Px.Rd β} (h : k → Wt c f p) (h' : ¬ k → Wt c f q) : Wt c f (if k then p else q) := by
 split
 ·exact h (by assumption)
 ·exact h' (by assumption)
theorem Wt.refuse : Wt c f (Px.refuse : Px.Rd β) := fun _ _ _ h => by cases h
theorem Wt.le {p : Px.Rd β} {c' : Int} (h : Wt c f p) (hc : c ≤ c') : Wt c' f p := fun ts a r e => by have := h ts a r e; (try dsimp only); omega
theorem Wt.word : Wt 0 (fun _ => 0) Px.wordR := fun ts a r h => by cases h; (try dsimp only); omega
theorem Wt.num : Wt 0 (fun _ => 0) Px.numR := fun ts a r h => by
 cases ts <;> cases h <;> (dsimp only; omega)
theorem Wt.done : Wt 0 (fun _ => 0) Px.doneR := fun ts a r h => by cases h; (try dsimp only); omega
theorem Wt.off (sz : Nat) : Wt 0 (fun _ => 0) (Px.offsetR sz) := fun ts a r h => by
 cases ts <;> cases h <;> simp
theorem Wt.take : Wt 0 (fun _ => 0) Px.take := fun ts a r h => by
 cases h
 cases ts <;> simp <;> (try dsimp only); omega
theorem Wt.accept {ws : List Txt} (hw : ws.contains [] = false) : Wt 0 (fun b => if b = true then 30 else 0) (Px.accept ws) := fun ts a r h => by
 unfold Px.accept at h
 split at h
 ·rename_i hc
  cases h
  cases ts with
  | nil => rw [Px.word] at hc; rw [hw] at hc; cases hc
  | cons t r => simp; (try dsimp only); omega
 ·cases h; simp
theorem Wt.expect {ws : List Txt} (hw : ws.contains [] = false) : Wt (-30) (fun _ => 0) (Px.expect ws) := fun ts a r h => by
 have := expect_len h hw
 (try dsimp only); omega
theorem Wt.name : Wt (-29) (fun _ => 1) Px.name := fun ts a r h => by
 obtain ⟨t, rfl, _⟩ := name_head h
 simp; (try dsimp only); omega
theorem Wt.number : Wt (-30) (fun _ => 0) Px.number := fun ts a r h => by
 cases ts with
 | nil => cases h
 | cons t s =>
  simp only [Px.number] at h
  split at h
  ·cases h; simp; (try dsimp only); omega
  ·cases h
end
/-- the weight of all elements -/
def sumW {α : Type} (g : α → Int) (l : List α) : Int := (l.map g).sum
theorem sumW_snoc {α : Type} (g : α → Int) (l : List α) (a : α) : sumW g (l ++ [a]) = sumW g l + g a := by simp [sumW]
theorem sumW_nil {α : Type} (g : α → Int) : sumW g [] = 0 := rfl
theorem sumW_cons {α : Type} (g : α → Int) (a : α) (l : List α) : sumW g (a :: l) = g a + sumW g l := by simp [sumW]
section
variable {α : Type} {n : Int} {g : α → Int} {p : Px.Rd α} (hp : Wt n g p) (hn : n ≤ 0)
include hp hn in
theorem Wt.listT : ∀ (k : Nat) (acc : List α), Wt (sumW g acc) (sumW g) (Px.listT p k acc) := by
 intro k
 induction k with
 | zero => intro acc; exact Wt.refuse
 | succ k ih =>
  intro acc
  rw [Px.listT]
  refine Wt.bind (Wt.accept (by rfl)) fun b => ?_
  refine Wt.ite (fun hb => ?_) (fun hb => ?_)
  ·refine Wt.bind hp fun a => ?_
   refine (ih (acc ++ [a])).le ?_
   rw [sumW_snoc, if_pos hb]; (try dsimp only); omega
  ·refine Wt.pure ?_
   rw [if_neg hb]; (try dsimp only); omega
include hp hn in
theorem Wt.list : Wt n (sumW g) (Px.list p) := by
 intro ts l r h
 change Px.Rd.bind p (fun a => Px.listT p (ts.length + 1) [a]) ts = _ at h
 unfold Px.Rd.bind at h
 cases hq : p ts with
 | bad s => rw [hq] at h; cases h
 | ok a s =>
  rw [hq] at h
  have h1 := hp _ _ _ hq
  have h2 := Wt.listT hp hn _ [a] _ _ _ h
  rw [sumW_cons, sumW_nil] at h2
  (try dsimp only); omega
include hp hn in
theorem Wt.opt {o c : Txt} (ho : ([o] : List Txt).contains [] = false) (hc : ([c] : List Txt).contains [] = false) : Wt 0 (sumW g) (Px.optionalList o p c) := by
 unfold Px.optionalList
 refine Wt.bind (Wt.accept ho) fun b => ?_
 refine Wt.ite (fun hb => ?_) (fun hb => ?_)
 ·refine Wt.bind (Wt.list hp hn) fun l => Wt.bind (Wt.expect hc) fun _ => Wt.pure ?_
  rw [if_pos hb]; (try dsimp only); omega
 ·refine Wt.pure ?_
  rw [if_neg hb, sumW_nil]; (try dsimp only); omega
include hp hn in
theorem Wt.pos {o c : Txt} (ho : ([o] : List Txt).contains [] = false) (hc : ([c] : List Txt).contains [] = false) : Wt (-30) (sumW g) (Px.possiblyEmptyList o p c) := by
 unfold Px.possiblyEmptyList
 refine Wt.bind (Wt.expect ho) fun _ => Wt.bind (Wt.accept hc) fun b => ?_
 refine Wt.ite (fun hb => ?_) (fun hb => ?_)
 ·refine Wt.pure ?_
  rw [if_pos hb, sumW_nil]; (try dsimp only); omega
 ·refine Wt.bind (Wt.list hp hn) fun l => Wt.bind (Wt.expect hc) fun _ => Wt.pure ?_
  rw [if_neg hb]; (try dsimp only); omega
include hp hn in
theorem Wt.untilT : ∀ (k : Nat) (acc : List α), Wt (sumW g acc) (sumW g) (Px.untilT p k acc) := by
 intro k
 induction k with
 | zero => intro acc; exact Wt.refuse
 | succ k ih =>
  intro acc
  rw [Px.untilT]
  refine Wt.bind (Wt.accept (by rfl)) fun b => ?_
  refine Wt.ite (fun hb => ?_) (fun hb => ?_)
  ·refine Wt.pure ?_
   rw [if_pos hb]; (try dsimp only); omega
  ·refine Wt.bind hp fun a => ?_
   refine (ih (acc ++ [a])).le ?_
   rw [sumW_snoc, if_neg hb]; (try dsimp only); omega
include hp hn in
theorem Wt.brace : Wt 0 (sumW g) (Px.untilBrace p) := fun ts l r h => by
 have := Wt.untilT hp hn (ts.length + 1) [] ts l r h
 rw [sumW_nil] at this
 exact this
include hp hn in
theorem Wt.block {p : Px.Rd StmtD} {g : StmtD → Int} {n : Int} (hp : Wt n g p) (hn : n ≤ 0) : Wt (-30) (sumW g) (Px.block p) := by
 unfold Px.block
 refine Wt.bind (Wt.expect (by rfl)) fun _ => ?_
 exact (Wt.brace hp hn).le (by omega)
end
section
variable (off : Bool)
def wS (s : StmtD) : Int := ((fS off s).length : Int)
theorem nF_len (n : Int) : (nF n).length = 1 := rfl
variable (sz : Nat)
section
variable {S : Px.Rd StmtD} (hS : Wt 0 (wS off) S)
include hS
end
end
end Go.Proofs.YtpdhiminpdmpiaaGreatDoor
