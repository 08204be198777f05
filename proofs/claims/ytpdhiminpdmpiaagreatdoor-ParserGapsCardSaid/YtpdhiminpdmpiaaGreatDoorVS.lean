/-
 What is read does not hang on the tokens' offsets, but for its own offsets.
-/
import Derived.Test.YtpdhiminpdmpiaaGreatDoorVQ
set_option linter.unusedVariables false
set_option linter.unusedSimpArgs false
set_option linter.unusedSectionVars false
set_option linter.unusedVariables false
set_option linter.unusedSimpArgs false
set_option linter.unusedSectionVars false
namespace Go.Proofs.YtpdhiminpdmpiaaGreatDoor
open Lx (Tk)
open Px (Txt TyE VarD DataD TraitD BoundD ImplD ArgD ExprD StmtD ArmD FuncD ModD)
mutual
def eT : TyE → TyE
 | .mk x a _ => .mk x (eTs a) 0
def eTs : List TyE → List TyE
 | [] => []
 | t :: r => eT t :: eTs r
end
/-- without offsets -/
theorem eTs_eq : ∀ l : List TyE, eTs l = l.map eT
 | [] => by rw [eTs, List.map_nil]
 | t :: r => by rw [eTs, List.map_cons, eTs_eq r]
theorem eT_mk (x : Txt) (a : List TyE) (o : Nat) : eT (.mk x a o) = .mk x (a.map eT) 0 := by rw [eT, eTs_eq]
def eV (v : VarD) : VarD := ⟨v.name, v.fields.map eT, 0⟩
def eD (d : DataD) : DataD := ⟨d.name, d.params, d.variants.map eV, d.drop, 0⟩
def eR (d : TraitD) : TraitD := ⟨d.name, 0⟩
def eB (b : BoundD) : BoundD := ⟨b.param, b.trait, 0⟩
def eI (i : ImplD) : ImplD := ⟨i.trait, i.params, i.bounds.map eB, eT i.type, i.func, 0⟩
def eA (a : ArgD) : ArgD := ⟨a.name, eT a.type, a.capture, 0⟩
def eE (e : ExprD) : ExprD := ⟨e.kind, e.op, e.name, e.variant, e.names, e.num, e.type.map eT, 0⟩
mutual
def eS : StmtD → StmtD
 | .mk k x l t e th el ar fn _ => .mk k x l (t.map eT) (eE e) (eSs th) (eSs el) (eMs ar) (eFs fn) 0
def eSs : List StmtD → List StmtD
 | [] => []
 | s :: r => eS s :: eSs r
def eM : ArmD → ArmD
 | .mk x l b _ => .mk x l (eSs b) 0
def eMs : List ArmD → List ArmD
 | [] => []
 | s :: r => eM s :: eMs r
def eF : FuncD → FuncD
 | .mk x p bs c a t b _ => .mk x p (bs.map eB) (c.map eA) (a.map eA) (eT t) (eSs b) 0
def eFs : List FuncD → List FuncD
 | [] => []
 | s :: r => eF s :: eFs r
end
theorem eSs_eq : ∀ l : List StmtD, eSs l = l.map eS
 | [] => by rw [eSs, List.map_nil]
 | t :: r => by rw [eSs, List.map_cons, eSs_eq r]
theorem eMs_eq : ∀ l : List ArmD, eMs l = l.map eM
 | [] => by rw [eMs, List.map_nil]
 | t :: r => by rw [eMs, List.map_cons, eMs_eq r]
theorem eFs_eq : ∀ l : List FuncD, eFs l = l.map eF
 | [] => by rw [eFs, List.map_nil]
 | t :: r => by rw [eFs, List.map_cons, eFs_eq r]
theorem eS_mk (k : Nat) (x : Txt) (l : List Txt) (t : List TyE) (e : ExprD) (th el : List StmtD) (ar : List ArmD) (fn : List FuncD) (o : Nat) :
  eS (.mk k x l t e th el ar fn o) = .mk k x l (t.map eT) (eE e) (th.map eS) (el.map eS) (ar.map eM) (fn.map eF) 0 := by rw [eS, eSs_eq, eSs_eq, eMs_eq, eFs_eq]
theorem eM_mk (x : Txt) (l : List Txt) (b : List StmtD) (o : Nat) : eM (.mk x l b o) = .mk x l (b.map eS) 0 := by rw [eM, eSs_eq]
theorem eF_mk (x : Txt) (p : List Txt) (bs : List BoundD) (c a : List ArgD) (t : TyE) (b : List StmtD) (o : Nat) :
  eF (.mk x p bs c a t b o) = .mk x p (bs.map eB) (c.map eA) (a.map eA) (eT t) (b.map eS) 0 := by rw [eF, eSs_eq]
def eMod (m : ModD) : ModD := ⟨m.name, m.uses, m.datas.map eD, m.traits.map eR, m.impls.map eI, m.funcs.map eF⟩
/-- the same tokens, but for their offsets -/
def Sim : List Tk → List Tk → Prop
 | [], [] => True
 | a :: r, b :: s => a.kind = b.kind ∧ a.text = b.text ∧ a.num = b.num ∧ Sim r s
 | _, _ => False
theorem Sim.len : ∀ {u v : List Tk}, Sim u v → u.length = v.length
 | [], [], _ => rfl
 | a :: r, b :: s, h => by simp [h.2.2.2.len]
 | [], _ :: _, h => h.elim
 | _ :: _, [], h => h.elim
theorem Sim.word {u v : List Tk} (h : Sim u v) : Px.word u = Px.word v := by
 cases u <;> cases v
 ·rfl
 ·exact h.elim
 ·exact h.elim
 ·exact h.2.1
theorem Sim.tail {u v : List Tk} (h : Sim u v) : Sim u.tail v.tail := by
 cases u <;> cases v
 ·exact h
 ·exact h.elim
 ·exact h.elim
 ·exact h.2.2.2
theorem Sim.empty {u v : List Tk} (h : Sim u v) : u.isEmpty = v.isEmpty := by
 cases u <;> cases v
 ·rfl
 ·exact h.elim
 ·exact h.elim
 ·rfl
/-- readers that read the same -/
def NN {α β : Type} (R : α → β → Prop) (p : Px.Rd α) (q : Px.Rd β) : Prop := ∀ u v, Sim u v →
 match p u, q v with
 | .ok a r, .ok b s => R a b ∧ Sim r s
 | .bad r, .bad s => Sim r s
 | _, _ => False
theorem NN.bind {α α' β β' : Type} {R : α → α' → Prop} {S : β → β' → Prop} {p : Px.Rd α} {q : Px.Rd α'} {f : α → Px.Rd β} {g : α' → Px.Rd β'} (hp : NN R p q) (hf : ∀ a b, R a b → NN S (f a) (g b)) : NN S (p >>= f) (q >>= g) := by
 intro u v h
 have h1 := hp u v h
 change (match Px.Rd.bind p f u, Px.Rd.bind q g v with
  | .ok a r, .ok b s => S a b ∧ Sim r s
  | .bad r, .bad s => Sim r s
  | _, _ => False)
 unfold Px.Rd.bind
 cases hq : p u with
 | ok a r =>
  cases hq' : q v with
  | ok b s =>
   rw [hq, hq'] at h1
   exact hf a b h1.1 r s h1.2
  | bad s => rw [hq, hq'] at h1; exact h1.elim
 | bad r =>
  cases hq' : q v with
  | ok b s => rw [hq, hq'] at h1; exact h1.elim
  | bad s => rw [hq, hq'] at h1; exact h1
theorem NN.pure {α β : Type} {R : α → β → Prop} {a : α} {b : β} (h : R a b) : NN R (Pure.pure a : Px.Rd α) (Pure.pure b) := fun _ _ hs => ⟨h, hs⟩
theorem NN.refuse {α β : Type} {R : α → β → Prop} : NN R (Px.refuse : Px.Rd α) (Px.refuse : Px.Rd β) := fun _ _ hs => hs
theorem NN.ite {α β : Type} {R : α → β → Prop} {c : Prop} [Decidable c] {p p' : Px.Rd α} {q q' : Px.Rd β} (h : NN R p q) (h' : NN R p' q') : NN R (if c then p else p') (if c then q else q') := by
 split
 ·exact h
 ·exact h'
theorem nn_word : NN Eq Px.wordR Px.wordR := fun _ _ h => ⟨h.word, h⟩
theorem nn_done : NN Eq Px.doneR Px.doneR := fun _ _ h => ⟨h.empty, h⟩
theorem nn_take : NN Eq Px.take Px.take := fun _ _ h => ⟨rfl, h.tail⟩
theorem nn_offset (a b : Nat) : NN (fun _ _ => True) (Px.offsetR a) (Px.offsetR b) := by
 intro u v h
 cases u <;> cases v
 ·exact ⟨trivial, h⟩
 ·exact h.elim
 ·exact h.elim
 ·exact ⟨trivial, h⟩
theorem nn_num : NN Eq Px.numR Px.numR := by
 intro u v h
 cases u <;> cases v
 ·exact ⟨rfl, h⟩
 ·exact h.elim
 ·exact h.elim
 ·refine ⟨?_, h⟩
  rw [h.1]
theorem nn_accept (ws : List Txt) : NN Eq (Px.accept ws) (Px.accept ws) := by
 intro u v h
 unfold Px.accept
 rw [h.word]
 by_cases hc : ws.contains (Px.word v) = true
 ·rw [if_pos hc, if_pos hc]; exact ⟨rfl, h.tail⟩
 ·rw [if_neg hc, if_neg hc]; exact ⟨rfl, h⟩
theorem nn_expect (ws : List Txt) : NN Eq (Px.expect ws) (Px.expect ws) := by
 intro u v h
 unfold Px.expect
 rw [h.word]
 by_cases hc : ws.contains (Px.word v) = true
 ·rw [if_pos hc, if_pos hc]; exact ⟨rfl, h.tail⟩
 ·rw [if_neg hc, if_neg hc]; exact h
theorem nn_name : NN Eq Px.name Px.name := by
 intro u v h
 cases u with
 | nil =>
  cases v with
  | nil => exact h
  | cons b s => exact h.elim
 | cons a r =>
  cases v with
  | nil => exact h.elim
  | cons b s =>
   simp only [Px.name]
   rw [h.1, h.2.1]
   by_cases hc : b.kind = 1 ∧ Px.keyB b.text = false
   ·rw [if_pos hc, if_pos hc]; exact ⟨rfl, h.2.2.2⟩
   ·rw [if_neg hc, if_neg hc]; exact h
theorem nn_number : NN Eq Px.number Px.number := by
 intro u v h
 cases u with
 | nil =>
  cases v with
  | nil => exact h
  | cons b s => exact h.elim
 | cons a r =>
  cases v with
  | nil => exact h.elim
  | cons b s =>
   simp only [Px.number]
   rw [h.1, h.2.2.1]
   by_cases hc : b.kind = 2
   ·rw [if_pos hc, if_pos hc]; exact ⟨rfl, h.2.2.2⟩
   ·rw [if_neg hc, if_neg hc]; exact h
/-- the same, but for offsets -/
def Like {α : Type} (e : α → α) : α → α → Prop := fun a b => e a = e b
def Likes {α : Type} (e : α → α) : List α → List α → Prop := fun a b => a.map e = b.map e
theorem likes_id {l m : List Txt} : Likes id l m ↔ l = m := by simp [Likes]
theorem NN.eq {α : Type} {R : α → α → Prop} {p q : Px.Rd α} (h : NN R p q) (hr : ∀ a b, R a b → a = b) : NN Eq p q := by
 intro u v hs
 have := h u v hs
 cases hp : p u <;> cases hq : q v <;> rw [hp, hq] at this <;> simp only at this ⊢
 ·exact ⟨hr _ _ this.1, this.2⟩
 ·exact this
theorem NN.of {α β : Type} {R S : α → β → Prop} {p : Px.Rd α} {q : Px.Rd β} (h : NN R p q) (hr : ∀ a b, R a b → S a b) : NN S p q := by
 intro u v hs
 have := h u v hs
 cases hp : p u <;> cases hq : q v <;> rw [hp, hq] at this <;> simp only at this ⊢
 ·exact ⟨hr _ _ this.1, this.2⟩
 ·exact this
section
variable {α : Type} {e : α → α} {p q : Px.Rd α} (h : NN (Like e) p q)
include h
theorem nn_listT : ∀ (n : Nat) (a b : List α), Likes e a b → NN (Likes e) (Px.listT p n a) (Px.listT q n b)
 | 0, _, _, _ => NN.refuse
 | n + 1, a, b, hab => by
  rw [Px.listT, Px.listT]
  refine (nn_accept [[44]]).bind ?_
  rintro c _ rfl
  refine NN.ite ?_ (NN.pure hab)
  refine h.bind fun x y hxy => nn_listT n _ _ ?_
  show (a ++ [x]).map e = (b ++ [y]).map e
  rw [List.map_append, List.map_append, hab, List.map_singleton, List.map_singleton, hxy]
theorem nn_list : NN (Likes e) (Px.list p) (Px.list q) := by
 intro u v hs
 have hl := hs.len
 have := (NN.bind h (f := fun a => Px.listT p (u.length + 1) [a]) (g := fun a => Px.listT q (v.length + 1) [a]) (fun a b hab => by rw [hl]; exact nn_listT h _ _ _ (by show [a].map e = [b].map e; rw [List.map_singleton, List.map_singleton, hab]))) u v hs
 exact this
theorem nn_opt (o c : Txt) : NN (Likes e) (Px.optionalList o p c) (Px.optionalList o q c) := by
 unfold Px.optionalList
 refine (nn_accept _).bind ?_
 rintro x _ rfl
 refine NN.ite ((nn_list h).bind fun l m hlm => (nn_expect _).bind fun _ _ _ => NN.pure hlm) (NN.pure rfl)
theorem nn_pos (o c : Txt) : NN (Likes e) (Px.possiblyEmptyList o p c) (Px.possiblyEmptyList o q c) := by
 unfold Px.possiblyEmptyList
 refine (nn_expect _).bind fun _ _ _ => (nn_accept _).bind ?_
 rintro x _ rfl
 refine NN.ite (NN.pure rfl) ((nn_list h).bind fun l m hlm => (nn_expect _).bind fun _ _ _ => NN.pure hlm)
theorem nn_untilT : ∀ (n : Nat) (a b : List α), Likes e a b → NN (Likes e) (Px.untilT p n a) (Px.untilT q n b)
 | 0, _, _, _ => NN.refuse
 | n + 1, a, b, hab => by
  rw [Px.untilT, Px.untilT]
  refine (nn_accept [[125]]).bind ?_
  rintro c _ rfl
  refine NN.ite (NN.pure hab) ?_
  refine h.bind fun x y hxy => nn_untilT n _ _ ?_
  show (a ++ [x]).map e = (b ++ [y]).map e
  rw [List.map_append, List.map_append, hab, List.map_singleton, List.map_singleton, hxy]
theorem nn_until : NN (Likes e) (Px.untilBrace p) (Px.untilBrace q) := by
 intro u v hs
 have := nn_untilT h (u.length + 1) [] [] rfl u v hs
 unfold Px.untilBrace
 rw [← hs.len]
 exact this
end
theorem nn_nameI : NN (Like id) Px.name Px.name := nn_name
theorem likes_eq {l m : List Txt} (h : Likes id l m) : l = m := likes_id.1 h
theorem nn_params : NN Eq Px.params Px.params := (nn_opt nn_nameI _ _).eq fun _ _ => likes_eq
theorem nn_names (o c : Txt) : NN Eq (Px.optionalList o Px.name c) (Px.optionalList o Px.name c) := (nn_opt nn_nameI _ _).eq fun _ _ => likes_eq
theorem nn_passed (o c : Txt) : NN Eq (Px.possiblyEmptyList o Px.name c) (Px.possiblyEmptyList o Px.name c) := (nn_pos nn_nameI _ _).eq fun _ _ => likes_eq
end Go.Proofs.YtpdhiminpdmpiaaGreatDoor
/-
 Every reader reads the same of tokens that differ in their offsets alone, but for offsets.
-/
set_option linter.unusedVariables false
set_option linter.unusedSimpArgs false
set_option linter.unusedSectionVars false
namespace Go.Proofs.YtpdhiminpdmpiaaGreatDoor
open Lx (Tk)
open Px (Txt TyE VarD DataD TraitD BoundD ImplD ArgD ExprD StmtD ArmD FuncD ModD)
theorem NN.seq {α β β' : Type} {S : β → β' → Prop} {p q : Px.Rd α} {f : α → Px.Rd β} {g : α → Px.Rd β'} (h : NN Eq p q) (hf : ∀ a, NN S (f a) (g a)) : NN S (p >>= f) (q >>= g) :=
 h.bind (by rintro a _ rfl; exact hf a)
theorem nn_typeF (a b : Nat) : ∀ n, NN (Like eT) (Px.typeF a n) (Px.typeF b n)
 | 0 => NN.refuse
 | n + 1 => by
  have ih := nn_typeF a b n
  rw [Px.typeF, Px.typeF]
  refine nn_word.seq fun w => (nn_offset a b).bind fun o o' _ => (nn_accept _).seq fun c => NN.ite (NN.pure (by show eT _ = eT _; rw [eT_mk, eT_mk])) ((nn_accept _).seq fun c2 => NN.ite ?_ ((nn_accept _).seq fun c3 => NN.ite ?_ ?_))
  ·exact (nn_expect _).seq fun _ => ih.bind fun t t' ht => (nn_expect _).seq fun _ => NN.pure (by show eT _ = eT _; rw [eT_mk, eT_mk, List.map_singleton, List.map_singleton, ht])
  ·exact ih.bind fun t t' ht => NN.pure (by show eT _ = eT _; rw [eT_mk, eT_mk, List.map_singleton, List.map_singleton, ht])
  ·exact nn_name.seq fun x => (nn_opt ih _ _).bind fun l m hl => NN.pure (by show eT _ = eT _; rw [eT_mk, eT_mk, hl])
variable (a b n : Nat)
theorem nn_bound : NN (Like eB) (Px.bound a) (Px.bound b) := by
 unfold Px.bound
 exact (nn_offset a b).bind fun o o' _ => nn_name.seq fun p => (nn_expect _).seq fun _ => nn_name.seq fun t => NN.pure rfl
theorem nn_bounds : NN (Likes eB) (Px.bounds a) (Px.bounds b) := by
 unfold Px.bounds
 exact (nn_accept _).seq fun c => NN.ite (nn_list (nn_bound a b)) (NN.pure rfl)
theorem nn_variant : NN (Like eV) (Px.variant a n) (Px.variant b n) := by
 unfold Px.variant
 exact (nn_offset a b).bind fun o o' _ => nn_name.seq fun x => (nn_opt (nn_typeF a b n) _ _).bind fun f g hf => NN.pure (by show eV _ = eV _; simp only [eV]; rw [hf])
theorem nn_drop : NN Eq Px.dropAction Px.dropAction := by
 unfold Px.dropAction
 exact (nn_accept _).seq fun c => NN.ite (NN.pure rfl) (nn_number.seq fun k => NN.pure rfl)
theorem nn_data (o o' : Nat) : NN (Like eD) (Px.data a n o) (Px.data b n o') := by
 unfold Px.data
 refine nn_name.seq fun x => nn_params.seq fun p => (nn_expect _).seq fun _ => (nn_list (nn_variant a b n)).bind fun v v' hv => (nn_expect _).seq fun _ => (nn_accept _).seq fun c => NN.ite ?_ ?_
 ·exact nn_drop.seq fun d => (nn_expect _).seq fun _ => NN.pure (by show eD _ = eD _; simp only [eD]; rw [hv])
 ·exact (nn_expect _).seq fun _ => NN.pure (by show eD _ = eD _; simp only [eD]; rw [hv])
theorem nn_trait (o o' : Nat) : NN (Like eR) (Px.trait o) (Px.trait o') := by
 unfold Px.trait
 exact nn_name.seq fun x => (nn_expect _).seq fun _ => NN.pure rfl
theorem nn_impl (o o' : Nat) : NN (Like eI) (Px.implementation a n o) (Px.implementation b n o') := by
 unfold Px.implementation
 exact nn_params.seq fun p => nn_name.seq fun t => (nn_expect _).seq fun _ => (nn_typeF a b n).bind fun ty ty' ht => (nn_bounds a b).bind fun bs bs' hb => (nn_expect _).seq fun _ => nn_name.seq fun f => (nn_expect _).seq fun _ =>
  NN.pure (by show eI _ = eI _; simp only [eI]; rw [hb, ht])
theorem nn_arg : NN (Like eA) (Px.arg a n) (Px.arg b n) := by
 unfold Px.arg
 exact (nn_offset a b).bind fun o o' _ => nn_name.seq fun x => (nn_expect _).seq fun _ => (nn_typeF a b n).bind fun t t' ht => NN.pure (by show eA _ = eA _; simp only [eA]; rw [ht])
theorem nn_kind : NN Eq Px.captureKind Px.captureKind := by
 unfold Px.captureKind
 exact (nn_expect _).seq fun w => NN.ite (NN.pure rfl) (NN.ite (NN.pure rfl) (NN.pure rfl))
theorem nn_capture : NN (Like eA) (Px.capture a n) (Px.capture b n) := by
 unfold Px.capture
 refine (nn_offset a b).bind fun o o' _ => nn_kind.seq fun k => (nn_arg a b n).bind fun x y h => NN.pure ?_
 have h' : eA x = eA y := h
 simp only [eA, ArgD.mk.injEq] at h'
 show eA _ = eA _
 simp only [eA]
 rw [h'.1, h'.2.1]
theorem nn_signature : NN (fun s t => Likes eA s.1 t.1 ∧ Like eT s.2 t.2) (Px.signature a n) (Px.signature b n) := by
 unfold Px.signature
 exact (nn_pos (nn_arg a b n) _ _).bind fun l m h => (nn_expect _).seq fun _ => (nn_typeF a b n).bind fun t t' ht => NN.pure ⟨h, ht⟩
theorem nn_operands : ∀ k, NN Eq (Px.operands k) (Px.operands k)
 | 0 => NN.pure rfl
 | k + 1 => by
  rw [Px.operands]
  exact (nn_operands k).seq fun l => nn_name.seq fun x => NN.pure rfl
theorem nn_operation (kind k : Nat) : NN (Like eE) (Px.operation kind k) (Px.operation kind k) := by
 unfold Px.operation
 exact (nn_operands k).seq fun l => NN.pure rfl
theorem nn_reference (p q r : Nat) : NN (Like eE) (Px.reference p q r) (Px.reference p q r) := by
 unfold Px.reference
 exact (nn_accept _).seq fun c => NN.ite (nn_operation _ _) ((nn_accept _).seq fun c => NN.ite (nn_operation _ _) (nn_operation _ _))
theorem nn_new : NN (Like eE) Px.newValue Px.newValue := by
 unfold Px.newValue
 exact nn_name.seq fun x => (nn_expect _).seq fun _ => nn_name.seq fun v => (nn_names _ _).seq fun l => NN.pure rfl
theorem nn_afterName (x : Txt) : NN (Like eE) (Px.afterName x) (Px.afterName x) := by
 unfold Px.afterName
 exact nn_word.seq fun w => (nn_accept _).seq fun c => NN.ite (nn_name.seq fun y => NN.pure rfl) ((nn_accept _).seq fun c => NN.ite (nn_number.seq fun k => NN.pure rfl) (NN.ite ((nn_passed _ _).seq fun l => NN.pure rfl)
  ((nn_accept _).seq fun c => NN.ite (nn_name.seq fun y => NN.pure rfl) (NN.pure rfl))))
theorem nn_unplaced : NN (Like eE) (Px.unplaced a n) (Px.unplaced b n) := by
 unfold Px.unplaced
 refine nn_num.seq fun c => NN.ite (nn_number.seq fun k => NN.pure rfl) ?_
 refine (nn_accept _).seq fun c => NN.ite (nn_number.seq fun k => NN.pure rfl) ?_
 refine (nn_accept _).seq fun c => NN.ite nn_new ?_
 refine (nn_accept _).seq fun c => NN.ite (nn_operation _ _) ?_
 refine (nn_accept _).seq fun c => NN.ite (nn_operation _ _) ?_
 refine (nn_accept _).seq fun c => NN.ite (nn_reference _ _ _) ?_
 refine (nn_accept _).seq fun c => NN.ite (nn_reference _ _ _) ?_
 refine (nn_accept _).seq fun c => NN.ite (nn_operation _ _) ?_
 refine (nn_accept _).seq fun c => NN.ite (nn_operation _ _) ?_
 refine (nn_accept _).seq fun c => NN.ite (nn_operation _ _) ?_
 refine (nn_accept _).seq fun c => NN.ite ?_ ?_
 ·exact (nn_typeF a b n).bind fun t t' ht => NN.pure (by show eE _ = eE _; simp only [eE, List.map_singleton]; rw [ht])
 ·exact (nn_accept _).seq fun c => NN.ite (nn_operation _ _) (nn_name.seq fun x => nn_afterName x)
theorem nn_expr : NN (Like eE) (Px.expr a n) (Px.expr b n) := by
 unfold Px.expr
 exact (nn_offset a b).bind fun o o' _ => (nn_unplaced a b n).bind fun e e' h => NN.pure (by have h' : eE e = eE e' := h; exact h')
section
variable {p q : Px.Rd StmtD} (h : NN (Like eS) p q) (o o' : Nat)
theorem nn_let : NN (Like eS) (Px.letS a n o) (Px.letS b n o') := by
 unfold Px.letS
 refine nn_name.seq fun x => (nn_accept _).seq fun c => NN.ite ?_ ?_
 ·exact (nn_typeF a b n).bind fun t t' ht => (nn_expect _).seq fun _ => (nn_expr a b n).bind fun e e' he => (nn_expect _).seq fun _ => NN.pure (by show eS _ = eS _; rw [eS_mk, eS_mk, List.map_singleton, List.map_singleton, ht, he])
 ·exact (nn_expect _).seq fun _ => (nn_expr a b n).bind fun e e' he => (nn_expect _).seq fun _ => NN.pure (by show eS _ = eS _; rw [eS_mk, eS_mk, he])
theorem nn_set : NN (Like eS) (Px.setS a n o) (Px.setS b n o') := by
 unfold Px.setS
 exact nn_name.seq fun x => (nn_expect _).seq fun _ => (nn_expr a b n).bind fun e e' he => (nn_expect _).seq fun _ => NN.pure (by show eS _ = eS _; rw [eS_mk, eS_mk, he])
theorem nn_store : NN (Like eS) (Px.storeS o) (Px.storeS o') := by
 unfold Px.storeS
 exact nn_name.seq fun x => (nn_expect _).seq fun _ => nn_name.seq fun y => (nn_expect _).seq fun _ => NN.pure (by show eS _ = eS _; rw [eS_mk, eS_mk])
theorem nn_named (k : Nat) : NN (Like eS) (Px.namedS k o) (Px.namedS k o') := by
 unfold Px.namedS
 exact nn_name.seq fun x => (nn_expect _).seq fun _ => NN.pure (by show eS _ = eS _; rw [eS_mk, eS_mk])
theorem nn_bare : NN (Like eS) (Px.bareS o) (Px.bareS o') := by
 unfold Px.bareS
 exact (nn_expect _).seq fun _ => NN.pure (by show eS _ = eS _; rw [eS_mk, eS_mk])
theorem nn_send : NN (Like eS) (Px.sendS o) (Px.sendS o') := by
 unfold Px.sendS
 exact nn_name.seq fun x => nn_name.seq fun y => (nn_expect _).seq fun _ => NN.pure (by show eS _ = eS _; rw [eS_mk, eS_mk])
theorem nn_spawn : NN (Like eS) (Px.spawnS o) (Px.spawnS o') := by
 unfold Px.spawnS
 exact nn_name.seq fun x => (nn_passed _ _).seq fun l => (nn_expect _).seq fun _ => NN.pure (by show eS _ = eS _; rw [eS_mk, eS_mk])
include h
theorem nn_block : NN (Likes eS) (Px.block p) (Px.block q) := by
 unfold Px.block
 exact (nn_expect _).seq fun _ => nn_until h
theorem nn_choice : NN (Like eS) (Px.choiceS p o) (Px.choiceS q o') := by
 unfold Px.choiceS
 refine nn_name.seq fun x => (nn_block h).bind fun l m hl => (nn_accept _).seq fun c => NN.ite ?_ ?_
 ·exact (nn_block h).bind fun l2 m2 hl2 => NN.pure (by show eS _ = eS _; rw [eS_mk, eS_mk, hl, hl2])
 ·exact NN.pure (by show eS _ = eS _; rw [eS_mk, eS_mk, hl])
theorem nn_loop : NN (Like eS) (Px.loopS p o) (Px.loopS q o') := by
 unfold Px.loopS
 exact nn_name.seq fun x => (nn_block h).bind fun l m hl => NN.pure (by show eS _ = eS _; rw [eS_mk, eS_mk, hl])
theorem nn_arm : NN (Like eM) (Px.arm a p) (Px.arm b q) := by
 unfold Px.arm
 exact (nn_offset a b).bind fun o o' _ => nn_name.seq fun x => (nn_names _ _).seq fun l => (nn_block h).bind fun c d hc => NN.pure (by show eM _ = eM _; rw [eM_mk, eM_mk, hc])
theorem nn_match : NN (Like eS) (Px.matchS a p o) (Px.matchS b q o') := by
 unfold Px.matchS
 refine nn_name.seq fun x => (nn_expect _).seq fun _ => (nn_arm a b h).bind fun r s hr => (nn_until (nn_arm a b h)).bind fun l m hl => NN.pure ?_
 show eS _ = eS _
 rw [eS_mk, eS_mk, List.map_cons, List.map_cons, hr, hl]
theorem nn_localF : NN (Like eF) (Px.localFunction a n p o) (Px.localFunction b n q o') := by
 unfold Px.localFunction
 refine nn_name.seq fun x => (nn_pos (nn_capture a b n) _ _).bind fun c d hc => (nn_signature a b n).bind fun s t hs => (nn_block h).bind fun l m hl => NN.pure ?_
 show eF _ = eF _
 rw [eF_mk, eF_mk, hc, hs.1, hs.2, hl]
theorem nn_local : NN (Like eS) (Px.localS a n p o) (Px.localS b n q o') := by
 unfold Px.localS
 exact (nn_localF a b n h o o').bind fun f g hf => NN.pure (by show eS _ = eS _; rw [eS_mk, eS_mk, List.map_singleton, List.map_singleton, hf])
theorem nn_after (k : Nat) : NN (Like eS) (Px.afterForm a n p k o) (Px.afterForm b n q k o') := by
 unfold Px.afterForm
 exact NN.ite (nn_let a b n o o') (NN.ite (nn_store o o') (NN.ite (nn_choice h o o') (NN.ite (nn_loop h o o') (NN.ite (nn_match a b h o o') (NN.ite (nn_bare o o') (NN.ite (nn_send o o') (NN.ite (nn_spawn o o') (NN.ite (nn_local a b n h o o') (nn_named o o' k)))))))))
end
theorem nn_stmt : ∀ m, NN (Like eS) (Px.stmtF a n m) (Px.stmtF b n m)
 | 0 => NN.refuse
 | m + 1 => by
  rw [Px.stmtF, Px.stmtF]
  exact (nn_offset a b).bind fun o o' _ => nn_word.seq fun w => NN.ite (nn_set a b n o o') (nn_take.seq fun _ => nn_after a b n (nn_stmt m) o o' _)
theorem nn_function (o o' : Nat) : NN (Like eF) (Px.function a n o) (Px.function b n o') := by
 unfold Px.function
 refine nn_name.seq fun x => nn_params.seq fun p => (nn_signature a b n).bind fun s t hs => (nn_bounds a b).bind fun c d hc => (nn_block (nn_stmt a b n n)).bind fun l m hl => NN.pure ?_
 show eF _ = eF _
 rw [eF_mk, eF_mk, hc, hs.1, hs.2, hl]
theorem eMod_eq {m m' : ModD} (h : Like eMod m m') : m.name = m'.name ∧ m.uses = m'.uses ∧ Likes eD m.datas m'.datas ∧ Likes eR m.traits m'.traits ∧ Likes eI m.impls m'.impls ∧ Likes eF m.funcs m'.funcs := by
 have h' : eMod m = eMod m' := h
 simp only [eMod, ModD.mk.injEq] at h'
 exact h'
theorem nn_item {m m' : ModD} (h : Like eMod m m') : NN (Like eMod) (Px.item a n m) (Px.item b n m') := by
 obtain ⟨h1, h2, h3, h4, h5, h6⟩ := eMod_eq h
 unfold Px.item
 refine (nn_offset a b).bind fun o o' _ => (nn_expect _).seq fun w => NN.ite ?_ (NN.ite ?_ (NN.ite ?_ ?_))
 ·exact (nn_data a b n o o').bind fun x y hx => NN.pure (by show eMod _ = eMod _; simp only [eMod, List.map_append, List.map_singleton]; rw [h1, h2, h3, h4, h5, h6, hx])
 ·exact (nn_trait o o').bind fun x y hx => NN.pure (by show eMod _ = eMod _; simp only [eMod, List.map_append, List.map_singleton]; rw [h1, h2, h3, h4, h5, h6, hx])
 ·exact (nn_impl a b n o o').bind fun x y hx => NN.pure (by show eMod _ = eMod _; simp only [eMod, List.map_append, List.map_singleton]; rw [h1, h2, h3, h4, h5, h6, hx])
 ·exact (nn_function a b n o o').bind fun x y hx => NN.pure (by show eMod _ = eMod _; simp only [eMod, List.map_append, List.map_singleton]; rw [h1, h2, h3, h4, h5, h6, hx])
theorem nn_uses : ∀ (k : Nat) (l : List Txt), NN Eq (Px.usesF k l) (Px.usesF k l)
 | 0, _ => NN.refuse
 | k + 1, l => by
  rw [Px.usesF]
  exact (nn_accept _).seq fun c => NN.ite (nn_name.seq fun x => (nn_expect _).seq fun _ => nn_uses k _) (NN.pure rfl)
theorem nn_items : ∀ (k : Nat) (m m' : ModD), Like eMod m m' → NN (Like eMod) (Px.itemsF a n k m) (Px.itemsF b n k m')
 | 0, _, _, _ => NN.refuse
 | k + 1, m, m', h => by
  rw [Px.itemsF, Px.itemsF]
  exact nn_done.seq fun c => NN.ite (NN.pure h) ((nn_item a b n h).bind fun x y hx => nn_items k x y hx)
/-- a module, read of tokens at other places: the same, but for offsets -/
theorem nn_module : NN (Like eMod) (Px.module a n) (Px.module b n) := by
 unfold Px.module
 exact (nn_expect _).seq fun _ => nn_name.seq fun x => (nn_expect _).seq fun _ => (nn_uses n []).seq fun u => nn_items a b n n _ _ rfl
end Go.Proofs.YtpdhiminpdmpiaaGreatDoor
/-
 Plain definitions of the texts and numbers by which the reference compares two modules; without offsets they don't hang on these.
-/
set_option linter.unusedVariables false
set_option linter.unusedSimpArgs false
set_option linter.unusedSectionVars false
namespace Go.Proofs.YtpdhiminpdmpiaaGreatDoor
open Px (Txt TyE VarD DataD TraitD BoundD ImplD ArgD ExprD StmtD ArmD FuncD ModD)
abbrev Fact := Txt × Int
def nF (n : Int) : List Fact := [([], n)]
def tF (l : List Txt) : List Fact := nF l.length ++ l.map (fun t => (t, 0))
def oF (off : Bool) (n : Nat) : List Fact := if off then nF n else []
theorem oF_no (n : Nat) : oF false n = [] := rfl
mutual
def fT (off : Bool) : TyE → List Fact
 | .mk x a o => tF [x] ++ (oF off o ++ (nF a.length ++ fTs off a))
def fTs (off : Bool) : List TyE → List Fact
 | [] => []
 | t :: r => fT off t ++ fTs off r
end
def typesF (off : Bool) (l : List TyE) : List Fact := nF l.length ++ fTs off l
def fBs (off : Bool) : List BoundD → List Fact
 | [] => []
 | b :: r => tF [b.param, b.trait] ++ (oF off b.off ++ fBs off r)
def boundsF (off : Bool) (l : List BoundD) : List Fact := nF l.length ++ fBs off l
def fAs (off : Bool) : List ArgD → List Fact
 | [] => []
 | a :: r => tF [a.name] ++ (typesF off [a.type] ++ (nF a.capture ++ (oF off a.off ++ fAs off r)))
def argsF (off : Bool) (l : List ArgD) : List Fact := nF l.length ++ fAs off l
mutual
def fS (off : Bool) : StmtD → List Fact
 | .mk k x l t e th el ar fn o => nF k ++ (nF e.kind ++ (nF e.num ++ (tF [x, e.op, e.name, e.variant] ++ (tF l ++ (tF e.names ++ (typesF off t ++ (typesF off e.type ++
  (nF th.length ++ (fSs off th ++ (nF el.length ++ (fSs off el ++ (nF ar.length ++ (fMs off ar ++ (nF fn.length ++ (fFs off fn ++ (oF off o ++ oF off e.off))))))))))))))))
def fSs (off : Bool) : List StmtD → List Fact
 | [] => []
 | s :: r => fS off s ++ fSs off r
def fM (off : Bool) : ArmD → List Fact
 | .mk x l b o => tF [x] ++ (tF l ++ (nF b.length ++ (fSs off b ++ oF off o)))
def fMs (off : Bool) : List ArmD → List Fact
 | [] => []
 | s :: r => fM off s ++ fMs off r
def fF (off : Bool) : FuncD → List Fact
 | .mk x p bs c a t b o => tF [x] ++ (tF p ++ (boundsF off bs ++ (argsF off c ++ (argsF off a ++ (typesF off [t] ++ (nF b.length ++ (fSs off b ++ oF off o)))))))
def fFs (off : Bool) : List FuncD → List Fact
 | [] => []
 | s :: r => fF off s ++ fFs off r
end
def fVs (off : Bool) : List VarD → List Fact
 | [] => []
 | v :: r => tF [v.name] ++ (typesF off v.fields ++ (oF off v.off ++ fVs off r))
def fDs (off : Bool) : List DataD → List Fact
 | [] => []
 | d :: r => tF [d.name] ++ (tF d.params ++ (nF d.drop ++ (nF d.variants.length ++ (fVs off d.variants ++ (oF off d.off ++ fDs off r)))))
def fRs (off : Bool) : List TraitD → List Fact
 | [] => []
 | d :: r => tF [d.name] ++ (oF off d.off ++ fRs off r)
def fIs (off : Bool) : List ImplD → List Fact
 | [] => []
 | d :: r => tF [d.trait, d.func] ++ (tF d.params ++ (boundsF off d.bounds ++ (typesF off [d.type] ++ (oF off d.off ++ fIs off r))))
/-- what Facts answers -/
def factsM (off : Bool) (m : ModD) : List Fact :=
 tF [m.name] ++ (tF m.uses ++ (nF m.datas.length ++ (fDs off m.datas ++ (nF m.traits.length ++ (fRs off m.traits ++ (nF m.impls.length ++ (fIs off m.impls ++ (nF m.funcs.length ++ fFs off m.funcs))))))))
mutual
theorem fT_e : ∀ t : TyE, fT false (eT t) = fT false t
 | .mk x a o => by rw [eT, fT, fT, oF_no, oF_no, fTs_e a, eTs_eq, List.length_map]
theorem fTs_e : ∀ l : List TyE, fTs false (eTs l) = fTs false l
 | [] => by rw [eTs]
 | t :: r => by rw [eTs, fTs, fTs, fT_e t, fTs_e r]
end
theorem typesF_e (l : List TyE) : typesF false (l.map eT) = typesF false l := by rw [typesF, typesF, ← eTs_eq, fTs_e, eTs_eq, List.length_map]
theorem typesF_one (t : TyE) : typesF false [eT t] = typesF false [t] := typesF_e [t]
theorem fBs_e : ∀ l : List BoundD, fBs false (l.map eB) = fBs false l
 | [] => rfl
 | b :: r => by rw [List.map_cons, fBs, fBs, fBs_e r]; rfl
theorem boundsF_e (l : List BoundD) : boundsF false (l.map eB) = boundsF false l := by rw [boundsF, boundsF, fBs_e, List.length_map]
theorem fAs_e : ∀ l : List ArgD, fAs false (l.map eA) = fAs false l
 | [] => rfl
 | a :: r => by rw [List.map_cons, fAs, fAs, fAs_e r]; simp only [eA, oF_no, typesF_one]
theorem argsF_e (l : List ArgD) : argsF false (l.map eA) = argsF false l := by rw [argsF, argsF, fAs_e, List.length_map]
mutual
theorem fS_e : ∀ s : StmtD, fS false (eS s) = fS false s
 | .mk k x l t e th el ar fn o => by
  rw [eS, fS, fS, fSs_e th, fSs_e el, fMs_e ar, fFs_e fn, eSs_eq, eSs_eq, eMs_eq, eFs_eq, List.length_map, List.length_map, List.length_map, List.length_map, typesF_e]
  simp only [eE, oF_no, typesF_e]
theorem fSs_e : ∀ l : List StmtD, fSs false (eSs l) = fSs false l
 | [] => by rw [eSs]
 | t :: r => by rw [eSs, fSs, fSs, fS_e t, fSs_e r]
theorem fM_e : ∀ s : ArmD, fM false (eM s) = fM false s
 | .mk x l b o => by rw [eM, fM, fM, fSs_e b, eSs_eq, List.length_map, oF_no, oF_no]
theorem fMs_e : ∀ l : List ArmD, fMs false (eMs l) = fMs false l
 | [] => by rw [eMs]
 | t :: r => by rw [eMs, fMs, fMs, fM_e t, fMs_e r]
theorem fF_e : ∀ s : FuncD, fF false (eF s) = fF false s
 | .mk x p bs c a t b o => by rw [eF, fF, fF, fSs_e b, eSs_eq, List.length_map, boundsF_e, argsF_e, argsF_e, typesF_one, oF_no, oF_no]
theorem fFs_e : ∀ l : List FuncD, fFs false (eFs l) = fFs false l
 | [] => by rw [eFs]
 | t :: r => by rw [eFs, fFs, fFs, fF_e t, fFs_e r]
end
theorem fVs_e : ∀ l : List VarD, fVs false (l.map eV) = fVs false l
 | [] => rfl
 | v :: r => by rw [List.map_cons, fVs, fVs, fVs_e r]; simp only [eV, oF_no, typesF_e]
theorem fDs_e : ∀ l : List DataD, fDs false (l.map eD) = fDs false l
 | [] => rfl
 | v :: r => by rw [List.map_cons, fDs, fDs, fDs_e r]; simp only [eD, oF_no, fVs_e, List.length_map]
theorem fRs_e : ∀ l : List TraitD, fRs false (l.map eR) = fRs false l
 | [] => rfl
 | v :: r => by rw [List.map_cons, fRs, fRs, fRs_e r]; simp only [eR, oF_no]
theorem fIs_e : ∀ l : List ImplD, fIs false (l.map eI) = fIs false l
 | [] => rfl
 | v :: r => by rw [List.map_cons, fIs, fIs, fIs_e r]; simp only [eI, oF_no, boundsF_e, typesF_one]
theorem facts_e (m : ModD) : factsM false (eMod m) = factsM false m := by
 unfold factsM
 simp only [eMod, List.length_map, fDs_e, fRs_e, fIs_e]
 rw [← eFs_eq, fFs_e]
/-- what differs in its offsets alone is the same without them -/
theorem facts_like {m m' : ModD} (h : Like eMod m m') : factsM false m = factsM false m' := by
 have h' : eMod m = eMod m' := h
 rw [← facts_e m, h', facts_e]
end Go.Proofs.YtpdhiminpdmpiaaGreatDoor
