/-
 Reading looks at the next token alone: what a text's beginning comes to says what the text comes to, where reading has stopped within the beginning.
-/
import Derived.Test.YtpdhiminpdmpiaaGreatDoorVO
import Derived.Test.YtpdhiminpdmpiaaGreatDoorVA
import Derived.Test.YtpdhiminpdmpiaaGreatDoorVBG
set_option linter.unusedVariables false
set_option linter.unusedSimpArgs false
set_option linter.unusedSectionVars false
set_option linter.unusedVariables false
set_option linter.unusedSimpArgs false
set_option linter.unusedSectionVars false
namespace Go.Proofs.YtpdhiminpdmpiaaGreatDoor
open Lx (Tk)
open Px (Txt TyE VarD DataD TraitD BoundD ImplD ArgD ExprD StmtD ArmD FuncD ModD)
def Px.Res.left {α : Type} : Px.Res α → List Tk
 | .ok _ r => r
 | .bad r => r
/-- what is left is an end of the tokens -/
def Suf {α : Type} (p : Px.Rd α) : Prop := ∀ ts, ∃ u, ts = u ++ (p ts).left
/-- two readers, at the beginning of some tokens and at all of them -/
structure LL {α : Type} (p q : Px.Rd α) : Prop where
 loc : ∀ u v, (∃ a s, s ≠ [] ∧ p u = .ok a s ∧ q (u ++ v) = .ok a (s ++ v)) ∨ (∃ s, s ≠ [] ∧ p u = .bad s ∧ q (u ++ v) = .bad (s ++ v)) ∨ ((p u).left = [] ∧ (q (u ++ v)).left.length ≤ v.length)
 s1 : Suf p
 s2 : Suf q
theorem Suf.le {α : Type} {p : Px.Rd α} (h : Suf p) (ts : List Tk) : (p ts).left.length ≤ ts.length := by
 obtain ⟨u, hu⟩ := h ts
 have : ts.length = u.length + (p ts).left.length := by rw [← List.length_append, ← hu]
 omega
theorem Suf.bind {α β : Type} {p : Px.Rd α} {f : α → Px.Rd β} (hp : Suf p) (hf : ∀ a, Suf (f a)) : Suf (p >>= f) := by
 intro ts
 obtain ⟨u, hu⟩ := hp ts
 show ∃ u, ts = u ++ (Px.Rd.bind p f ts).left
 unfold Px.Rd.bind
 cases hq : p ts with
 | bad r => rw [hq] at hu; exact ⟨u, hu⟩
 | ok a r =>
  rw [hq] at hu
  obtain ⟨u', hu'⟩ := hf a r
  exact ⟨u ++ u', by simp only; rw [List.append_assoc, ← hu']; exact hu⟩
theorem LL.bind {α β : Type} {p q : Px.Rd α} {f g : α → Px.Rd β} (hp : LL p q) (hf : ∀ a, LL (f a) (g a)) : LL (p >>= f) (q >>= g) := by
 refine ⟨fun u v => ?_, hp.s1.bind fun a => (hf a).s1, hp.s2.bind fun a => (hf a).s2⟩
 show (∃ a s, s ≠ [] ∧ Px.Rd.bind p f u = .ok a s ∧ Px.Rd.bind q g (u ++ v) = .ok a (s ++ v)) ∨ (∃ s, s ≠ [] ∧ Px.Rd.bind p f u = .bad s ∧ Px.Rd.bind q g (u ++ v) = .bad (s ++ v)) ∨ ((Px.Rd.bind p f u).left = [] ∧ (Px.Rd.bind q g (u ++ v)).left.length ≤ v.length)
 unfold Px.Rd.bind
 rcases hp.loc u v with ⟨a, s, hs, h1, h2⟩ | ⟨s, hs, h1, h2⟩ | ⟨h1, h2⟩
 ·rw [h1, h2]
  exact (hf a).loc s v
 ·rw [h1, h2]
  exact .inr (.inl ⟨s, hs, rfl, rfl⟩)
 ·refine .inr (.inr ⟨?_, ?_⟩)
  ·cases hq : p u with
   | bad r => rw [hq] at h1; exact h1
   | ok a r =>
    rw [hq] at h1
    have h1' : r = [] := h1
    subst h1'
    have := (hf a).s1.le []
    exact List.length_eq_zero_iff.1 (by simpa using this)
  ·cases hq : q (u ++ v) with
   | bad r => rw [hq] at h2; exact h2
   | ok a r =>
    rw [hq] at h2
    exact Nat.le_trans ((hf a).s2.le r) h2
theorem LL.ite {α : Type} {c : Prop} [Decidable c] {p q p' q' : Px.Rd α} (h : LL p p') (h' : LL q q') : LL (if c then p else q) (if c then p' else q') := by
 split
 ·exact h
 ·exact h'
/-- the common case: nothing but the tokens counts -/
theorem LL.of {α : Type} {p : Px.Rd α} (hs : Suf p) (h : ∀ t u v, (∃ a s, s ≠ [] ∧ p (t :: u) = .ok a s ∧ p (t :: u ++ v) = .ok a (s ++ v)) ∨ (∃ s, s ≠ [] ∧ p (t :: u) = .bad s ∧ p (t :: u ++ v) = .bad (s ++ v)) ∨ ((p (t :: u)).left = [] ∧ (p (t :: u ++ v)).left.length ≤ v.length)) : LL p p := by
 refine ⟨fun u v => ?_, hs, hs⟩
 cases u with
 | cons t u => exact h t u v
 | nil => exact .inr (.inr ⟨List.length_eq_zero_iff.1 (by simpa using hs.le []), by simpa using hs.le v⟩)
theorem LL.pure {α : Type} (a : α) : LL (Pure.pure a : Px.Rd α) (Pure.pure a) :=
 LL.of (fun ts => ⟨[], rfl⟩) fun t u v => .inl ⟨a, t :: u, by simp, rfl, rfl⟩
theorem LL.refuse {α : Type} : LL (Px.refuse : Px.Rd α) Px.refuse :=
 LL.of (fun ts => ⟨[], rfl⟩) fun t u v => .inr (.inl ⟨t :: u, by simp, rfl, rfl⟩)
theorem LL.word : LL Px.wordR Px.wordR :=
 LL.of (fun ts => ⟨[], rfl⟩) fun t u v => .inl ⟨t.text, t :: u, by simp, rfl, rfl⟩
theorem LL.num : LL Px.numR Px.numR :=
 LL.of (fun ts => ⟨[], by cases ts <;> rfl⟩) fun t u v => .inl ⟨_, t :: u, by simp, rfl, rfl⟩
theorem LL.done : LL Px.doneR Px.doneR :=
 LL.of (fun ts => ⟨[], rfl⟩) fun t u v => .inl ⟨_, t :: u, by simp, rfl, rfl⟩
theorem suf_offset (sz : Nat) : Suf (Px.offsetR sz) := fun ts => ⟨[], by cases ts <;> rfl⟩
theorem LL.offset (sz sz' : Nat) : LL (Px.offsetR sz) (Px.offsetR sz') := by
 refine ⟨fun u v => ?_, suf_offset sz, suf_offset sz'⟩
 cases u with
 | cons t u => exact .inl ⟨t.off, t :: u, by simp, rfl, rfl⟩
 | nil => exact .inr (.inr ⟨rfl, by simpa using (suf_offset sz').le v⟩)
theorem suf_tail (ts : List Tk) : ∃ u, ts = u ++ ts.tail := by
 cases ts with
 | nil => exact ⟨[], rfl⟩
 | cons t u => exact ⟨[t], rfl⟩
theorem loc_tail {α : Type} {p : Px.Rd α} {a : α} {t : Tk} {u v : List Tk} (h : p (t :: u) = .ok a u) (h' : p (t :: u ++ v) = .ok a (u ++ v)) :
  (∃ a s, s ≠ [] ∧ p (t :: u) = .ok a s ∧ p (t :: u ++ v) = .ok a (s ++ v)) ∨ (∃ s, s ≠ [] ∧ p (t :: u) = .bad s ∧ p (t :: u ++ v) = .bad (s ++ v)) ∨ ((p (t :: u)).left = [] ∧ (p (t :: u ++ v)).left.length ≤ v.length) := by
 cases u with
 | nil => rw [h, h']; exact .inr (.inr ⟨rfl, Nat.le_refl _⟩)
 | cons t' u => exact .inl ⟨a, t' :: u, by simp, h, h'⟩
theorem LL.take : LL Px.take Px.take := LL.of suf_tail fun _ _ _ => loc_tail rfl rfl
theorem LL.accept (ws : List Txt) : LL (Px.accept ws) (Px.accept ws) := by
 refine LL.of (fun ts => ?_) fun t u v => ?_
 ·simp only [Px.accept]
  split
  ·exact suf_tail ts
  ·exact ⟨[], rfl⟩
 ·by_cases h : ws.contains t.text = true
  ·exact loc_tail (a := true) (by unfold Px.accept; exact if_pos h) (by unfold Px.accept; exact if_pos h)
  ·exact .inl ⟨false, t :: u, by simp, by unfold Px.accept; exact if_neg h, by unfold Px.accept; exact if_neg h⟩
theorem LL.expect (ws : List Txt) : LL (Px.expect ws) (Px.expect ws) := by
 refine LL.of (fun ts => ?_) fun t u v => ?_
 ·simp only [Px.expect]
  split
  ·exact suf_tail ts
  ·exact ⟨[], rfl⟩
 ·by_cases h : ws.contains t.text = true
  ·exact loc_tail (a := t.text) (by unfold Px.expect; exact if_pos h) (by unfold Px.expect; exact if_pos h)
  ·exact .inr (.inl ⟨t :: u, by simp, by unfold Px.expect; exact if_neg h, by unfold Px.expect; exact if_neg h⟩)
theorem LL.name : LL Px.name Px.name := by
 refine LL.of (fun ts => ?_) fun t u v => ?_
 ·cases ts with
  | nil => exact ⟨[], rfl⟩
  | cons t u =>
   simp only [Px.name]
   split
   ·exact ⟨[t], rfl⟩
   ·exact ⟨[], rfl⟩
 ·by_cases h : t.kind = 1 ∧ Px.keyB t.text = false
  ·exact loc_tail (a := t.text) (by simp only [Px.name]; rw [if_pos h]) (by simp only [Px.name, List.cons_append]; rw [if_pos h])
  ·exact .inr (.inl ⟨t :: u, by simp, by simp only [Px.name]; rw [if_neg h], by simp only [Px.name, List.cons_append]; rw [if_neg h]⟩)
theorem LL.number : LL Px.number Px.number := by
 refine LL.of (fun ts => ?_) fun t u v => ?_
 ·cases ts with
  | nil => exact ⟨[], rfl⟩
  | cons t u =>
   simp only [Px.number]
   split
   ·exact ⟨[t], rfl⟩
   ·exact ⟨[], rfl⟩
 ·by_cases h : t.kind = 2
  ·exact loc_tail (a := t.num) (by simp only [Px.number]; rw [if_pos h]) (by simp only [Px.number, List.cons_append]; rw [if_pos h])
  ·exact .inr (.inl ⟨t :: u, by simp, by simp only [Px.number]; rw [if_neg h], by simp only [Px.number, List.cons_append]; rw [if_neg h]⟩)
theorem Suf.shr {α : Type} {p : Px.Rd α} (h : Suf p) : Shr p := by
 intro ts
 have := h.le ts
 cases hq : p ts with
 | ok a r => rw [hq] at this; exact this
 | bad r => rw [hq] at this; exact this
/-! lists: how many rounds are granted does not matter -/
theorem listT_fuel {α : Type} {read : Px.Rd α} (hs : Shr read) : ∀ (n n' : Nat) (acc : List α) (ts : List Tk), ts.length < n → ts.length < n' → Px.listT read n acc ts = Px.listT read n' acc ts
 | 0, _, _, _, h, _ => by omega
 | _, 0, _, _, _, h => by omega
 | n + 1, n' + 1, acc, ts, h, h' => by
  by_cases hc : ([[44]] : List Txt).contains (Px.word ts) = true
  ·have ha : Px.accept [[44]] ts = .ok true ts.tail := by simp only [Px.accept]; rw [if_pos hc]
   have hl := accept_pos ha rfl
   cases hr : read ts.tail with
   | ok a r =>
    rw [listT_ok ha hr, listT_ok ha hr]
    have := hs.ok hr
    exact listT_fuel hs n n' _ r (by omega) (by omega)
   | bad r => rw [listT_bad ha hr, listT_bad ha hr]
  ·have ha : Px.accept [[44]] ts = .ok false ts := by simp only [Px.accept]; rw [if_neg hc]
   rw [listT_no ha, listT_no ha]
theorem untilT_fuel {α : Type} {read : Px.Rd α} (hs : Strict read) : ∀ (n n' : Nat) (acc : List α) (ts : List Tk), ts.length < n → ts.length < n' → Px.untilT read n acc ts = Px.untilT read n' acc ts
 | 0, _, _, _, h, _ => by omega
 | _, 0, _, _, _, h => by omega
 | n + 1, n' + 1, acc, ts, h, h' => by
  by_cases hc : ([[125]] : List Txt).contains (Px.word ts) = true
  ·have ha : Px.accept [[125]] ts = .ok true ts.tail := by simp only [Px.accept]; rw [if_pos hc]
   rw [untilT_no ha, untilT_no ha]
  ·have ha : Px.accept [[125]] ts = .ok false ts := by simp only [Px.accept]; rw [if_neg hc]
   cases hr : read ts with
   | ok a r =>
    rw [untilT_ok ha hr, untilT_ok ha hr]
    have := hs _ _ _ hr
    exact untilT_fuel hs n n' _ r (by omega) (by omega)
   | bad r => rw [untilT_bad ha hr, untilT_bad ha hr]
theorem list_fuel {α : Type} {read : Px.Rd α} (hs : Shr read) (n : Nat) (ts : List Tk) (h : ts.length < n) : Px.list read ts = (read >>= fun a => Px.listT read n [a]) ts := by
 show Px.Rd.bind read (fun a => Px.listT read (ts.length + 1) [a]) ts = Px.Rd.bind read (fun a => Px.listT read n [a]) ts
 unfold Px.Rd.bind
 cases hr : read ts with
 | ok a r =>
  have := hs.ok hr
  exact listT_fuel hs _ _ _ r (by omega) (by omega)
 | bad r => rfl
theorem until_fuel {α : Type} {read : Px.Rd α} (hs : Strict read) (n : Nat) (ts : List Tk) (h : ts.length < n) : Px.untilBrace read ts = Px.untilT read n [] ts :=
 untilT_fuel hs _ _ _ ts (by omega) h
theorem LL.listT {α : Type} {p q : Px.Rd α} (h : LL p q) : ∀ (n : Nat) (acc : List α), LL (Px.listT p n acc) (Px.listT q n acc)
 | 0, _ => LL.refuse
 | n + 1, acc => LL.bind (LL.accept _) fun _ => LL.ite (LL.bind h fun _ => LL.listT h n _) (LL.pure _)
theorem LL.untilT {α : Type} {p q : Px.Rd α} (h : LL p q) : ∀ (n : Nat) (acc : List α), LL (Px.untilT p n acc) (Px.untilT q n acc)
 | 0, _ => LL.refuse
 | n + 1, acc => LL.bind (LL.accept _) fun _ => LL.ite (LL.pure _) (LL.bind h fun _ => LL.untilT h n _)
theorem LL.list {α : Type} {p q : Px.Rd α} (h : LL p q) : LL (Px.list p) (Px.list q) := by
 have key := fun n => LL.bind h fun a => LL.listT h n [a]
 refine ⟨fun u v => ?_, fun ts => ?_, fun ts => ?_⟩
 ·rw [list_fuel h.s1.shr ((u ++ v).length + 1) u (by simp; omega), list_fuel h.s2.shr ((u ++ v).length + 1) (u ++ v) (by omega)]
  exact (key _).loc u v
 ·rw [list_fuel h.s1.shr (ts.length + 1) ts (by omega)]; exact (key _).s1 ts
 ·rw [list_fuel h.s2.shr (ts.length + 1) ts (by omega)]; exact (key _).s2 ts
theorem LL.until {α : Type} {p q : Px.Rd α} (h : LL p q) (h1 : Strict p) (h2 : Strict q) : LL (Px.untilBrace p) (Px.untilBrace q) := by
 have key := fun n => LL.untilT h n []
 refine ⟨fun u v => ?_, fun ts => ?_, fun ts => ?_⟩
 ·rw [until_fuel h1 ((u ++ v).length + 1) u (by simp; omega), until_fuel h2 ((u ++ v).length + 1) (u ++ v) (by omega)]
  exact (key _).loc u v
 ·rw [until_fuel h1 (ts.length + 1) ts (by omega)]; exact (key _).s1 ts
 ·rw [until_fuel h2 (ts.length + 1) ts (by omega)]; exact (key _).s2 ts
theorem LL.opt {α : Type} {p q : Px.Rd α} (h : LL p q) (o cl : Txt) : LL (Px.optionalList o p cl) (Px.optionalList o q cl) :=
 LL.bind (LL.accept _) fun _ => LL.ite (LL.bind (LL.list h) fun _ => LL.bind (LL.expect _) fun _ => LL.pure _) (LL.pure _)
theorem LL.pos {α : Type} {p q : Px.Rd α} (h : LL p q) (o cl : Txt) : LL (Px.possiblyEmptyList o p cl) (Px.possiblyEmptyList o q cl) :=
 LL.bind (LL.expect _) fun _ => LL.bind (LL.accept _) fun _ => LL.ite (LL.pure _) (LL.bind (LL.list h) fun _ => LL.bind (LL.expect _) fun _ => LL.pure _)
theorem ll_typeF (a b : Nat) : ∀ n, LL (Px.typeF a n) (Px.typeF b n)
 | 0 => LL.refuse
 | n + 1 => by
  have ih := ll_typeF a b n
  unfold Px.typeF
  repeat' (first | exact LL.pure _ | exact ih | exact LL.word | exact LL.offset _ _ | exact LL.accept _ | exact LL.expect _ | exact LL.name | exact LL.opt ih _ _ | apply LL.bind | apply LL.ite | intro _)
theorem ll_params : LL Px.params Px.params := LL.opt LL.name _ _
theorem ll_bound (a b : Nat) : LL (Px.bound a) (Px.bound b) := by
 unfold Px.bound
 repeat' (first | exact LL.pure _ | exact LL.offset _ _ | exact LL.expect _ | exact LL.name | apply LL.bind | intro _)
theorem ll_bounds (a b : Nat) : LL (Px.bounds a) (Px.bounds b) := by
 unfold Px.bounds
 repeat' (first | exact LL.pure _ | exact LL.list (ll_bound a b) | exact LL.accept _ | apply LL.bind | apply LL.ite | intro _)
theorem ll_variant (a b n : Nat) : LL (Px.variant a n) (Px.variant b n) := by
 unfold Px.variant
 repeat' (first | exact LL.pure _ | exact LL.offset _ _ | exact LL.name | exact LL.opt (ll_typeF a b n) _ _ | apply LL.bind | intro _)
theorem ll_dropAction : LL Px.dropAction Px.dropAction := by
 unfold Px.dropAction
 repeat' (first | exact LL.pure _ | exact LL.accept _ | exact LL.number | apply LL.bind | apply LL.ite | intro _)
theorem ll_data (a b n o : Nat) : LL (Px.data a n o) (Px.data b n o) := by
 unfold Px.data
 repeat' (first | exact LL.pure _ | exact LL.name | exact ll_params | exact LL.expect _ | exact LL.accept _ | exact LL.list (ll_variant a b n) | exact ll_dropAction | apply LL.bind | apply LL.ite | intro _)
theorem ll_trait (o : Nat) : LL (Px.trait o) (Px.trait o) := by
 unfold Px.trait
 repeat' (first | exact LL.pure _ | exact LL.name | exact LL.expect _ | apply LL.bind | intro _)
theorem ll_impl (a b n o : Nat) : LL (Px.implementation a n o) (Px.implementation b n o) := by
 unfold Px.implementation
 repeat' (first | exact LL.pure _ | exact LL.name | exact ll_params | exact LL.expect _ | exact ll_typeF a b n | exact ll_bounds a b | apply LL.bind | intro _)
theorem ll_arg (a b n : Nat) : LL (Px.arg a n) (Px.arg b n) := by
 unfold Px.arg
 repeat' (first | exact LL.pure _ | exact LL.offset _ _ | exact LL.name | exact LL.expect _ | exact ll_typeF a b n | apply LL.bind | intro _)
theorem ll_captureKind : LL Px.captureKind Px.captureKind := by
 unfold Px.captureKind
 repeat' (first | exact LL.pure _ | exact LL.expect _ | apply LL.bind | apply LL.ite | intro _)
theorem ll_capture (a b n : Nat) : LL (Px.capture a n) (Px.capture b n) := by
 unfold Px.capture
 repeat' (first | exact LL.pure _ | exact LL.offset _ _ | exact ll_captureKind | exact ll_arg a b n | apply LL.bind | intro _)
theorem ll_signature (a b n : Nat) : LL (Px.signature a n) (Px.signature b n) := by
 unfold Px.signature
 repeat' (first | exact LL.pure _ | exact LL.expect _ | exact LL.pos (ll_arg a b n) _ _ | exact ll_typeF a b n | apply LL.bind | intro _)
theorem ll_operands : ∀ k, LL (Px.operands k) (Px.operands k)
 | 0 => LL.pure _
 | k + 1 => by
  have ih := ll_operands k
  unfold Px.operands
  repeat' (first | exact LL.pure _ | exact ih | exact LL.name | apply LL.bind | intro _)
theorem ll_operation (k n : Nat) : LL (Px.operation k n) (Px.operation k n) := LL.bind (ll_operands _) fun _ => LL.pure _
theorem ll_reference (x y z : Nat) : LL (Px.reference x y z) (Px.reference x y z) := by
 unfold Px.reference
 repeat' (first | exact LL.accept _ | exact ll_operation _ _ | apply LL.bind | apply LL.ite | intro _)
theorem ll_newValue : LL Px.newValue Px.newValue := by
 unfold Px.newValue
 repeat' (first | exact LL.pure _ | exact LL.expect _ | exact LL.name | exact LL.opt LL.name _ _ | apply LL.bind | intro _)
theorem ll_afterName (x : Txt) : LL (Px.afterName x) (Px.afterName x) := by
 unfold Px.afterName
 repeat' (first | exact LL.pure _ | exact LL.word | exact LL.accept _ | exact LL.name | exact LL.number | exact LL.pos LL.name _ _ | apply LL.bind | apply LL.ite | intro _)
theorem ll_unplaced (a b n : Nat) : LL (Px.unplaced a n) (Px.unplaced b n) := by
 unfold Px.unplaced
 repeat' (first | exact LL.pure _ | exact LL.num | exact LL.accept _ | exact LL.name | exact LL.number | exact ll_newValue | exact ll_operation _ _ | exact ll_reference _ _ _ | exact ll_afterName _ | exact ll_typeF a b n | apply LL.bind | apply LL.ite | intro _)
theorem ll_expr (a b n : Nat) : LL (Px.expr a n) (Px.expr b n) := LL.bind (LL.offset _ _) fun _ => LL.bind (ll_unplaced a b n) fun _ => LL.pure _
theorem ll_block {p q : Px.Rd StmtD} (h : LL p q) (h1 : Strict p) (h2 : Strict q) : LL (Px.block p) (Px.block q) := LL.bind (LL.expect _) fun _ => LL.until h h1 h2
theorem ll_arm (a b : Nat) {p q : Px.Rd StmtD} (h : LL p q) (h1 : Strict p) (h2 : Strict q) : LL (Px.arm a p) (Px.arm b q) := by
 unfold Px.arm
 repeat' (first | exact LL.pure _ | exact LL.offset _ _ | exact LL.name | exact LL.opt LL.name _ _ | exact ll_block h h1 h2 | apply LL.bind | intro _)
theorem ll_local (a b n o : Nat) {p q : Px.Rd StmtD} (h : LL p q) (h1 : Strict p) (h2 : Strict q) : LL (Px.localFunction a n p o) (Px.localFunction b n q o) := by
 unfold Px.localFunction
 repeat' (first | exact LL.pure _ | exact LL.name | exact LL.pos (ll_capture a b n) _ _ | exact ll_signature a b n | exact ll_block h h1 h2 | apply LL.bind | intro _)
theorem ll_afterForm (a b n k o : Nat) {p q : Px.Rd StmtD} (h : LL p q) (h1 : Strict p) (h2 : Strict q) : LL (Px.afterForm a n p k o) (Px.afterForm b n q k o) := by
 have hu := LL.until (ll_arm a b h h1 h2) (strict_arm a h.s1.shr) (strict_arm b h.s2.shr)
 unfold Px.afterForm Px.letS Px.storeS Px.choiceS Px.loopS Px.matchS Px.bareS Px.sendS Px.spawnS Px.localS Px.namedS
 repeat' (first | exact LL.pure _ | exact LL.name | exact LL.expect _ | exact LL.accept _ | exact ll_typeF a b n | exact ll_expr a b n | exact ll_block h h1 h2 | exact ll_arm a b h h1 h2 | exact hu | exact LL.pos LL.name _ _ | exact ll_local a b n o h h1 h2 | apply LL.bind | apply LL.ite | intro _)
theorem ll_setS (a b n o : Nat) : LL (Px.setS a n o) (Px.setS b n o) := by
 unfold Px.setS
 repeat' (first | exact LL.pure _ | exact LL.name | exact LL.expect _ | exact ll_expr a b n | apply LL.bind | intro _)
theorem ll_stmtF (a b n : Nat) : ∀ m, LL (Px.stmtF a n m) (Px.stmtF b n m)
 | 0 => LL.refuse
 | m + 1 => by
  have ih := ll_stmtF a b n m
  unfold Px.stmtF
  repeat' (first | exact LL.offset _ _ | exact LL.word | exact ll_setS _ _ _ _ | exact LL.take | exact ll_afterForm _ _ _ _ _ ih (strict_stmtF a n m) (strict_stmtF b n m) | apply LL.bind | apply LL.ite | intro _)
theorem ll_function (a b n o : Nat) : LL (Px.function a n o) (Px.function b n o) := by
 unfold Px.function
 repeat' (first | exact LL.pure _ | exact LL.name | exact ll_params | exact ll_signature a b n | exact ll_bounds a b | exact ll_block (ll_stmtF a b n n) (strict_stmtF a n n) (strict_stmtF b n n) | apply LL.bind | intro _)
theorem ll_item (a b n : Nat) (m : ModD) : LL (Px.item a n m) (Px.item b n m) := by
 unfold Px.item
 repeat' (first | exact LL.pure _ | exact LL.offset _ _ | exact LL.expect _ | exact ll_data a b n _ | exact ll_trait _ | exact ll_impl a b n _ | exact ll_function a b n _ | apply LL.bind | apply LL.ite | intro _)
theorem ll_usesF : ∀ (k : Nat) (l : List Txt), LL (Px.usesF k l) (Px.usesF k l)
 | 0, _ => LL.refuse
 | k + 1, l => by
  have ih := ll_usesF k
  unfold Px.usesF
  repeat' (first | exact LL.pure _ | exact ih _ | exact LL.accept _ | exact LL.name | exact LL.expect _ | apply LL.bind | apply LL.ite | intro _)
theorem ll_itemsF (a b n : Nat) : ∀ (k : Nat) (m : ModD), LL (Px.itemsF a n k m) (Px.itemsF b n k m)
 | 0, _ => LL.refuse
 | k + 1, m => by
  have ih := ll_itemsF a b n k
  unfold Px.itemsF
  repeat' (first | exact LL.pure _ | exact ih _ | exact LL.done | exact ll_item a b n _ | apply LL.bind | apply LL.ite | intro _)
theorem ll_module (a b n : Nat) : LL (Px.module a n) (Px.module b n) := by
 unfold Px.module
 repeat' (first | exact LL.name | exact LL.expect _ | exact ll_usesF _ _ | exact ll_itemsF a b n _ _ | apply LL.bind | intro _)
end Go.Proofs.YtpdhiminpdmpiaaGreatDoor
/-
 What Parse answers at the beginnings of a text.
-/
set_option linter.unusedVariables false
set_option linter.unusedSimpArgs false
set_option linter.unusedSectionVars false
namespace Go.Proofs.YtpdhiminpdmpiaaGreatDoor
open Lx (Tk)
open Px (Txt TyE VarD DataD TraitD BoundD ImplD ArgD ExprD StmtD ArmD FuncD ModD)
/-- the error and the offset of an answer -/
abbrev errP (l : List UInt8) : Nat × Nat := ((Px.parseP l).2.1, (Px.parseP l).2.2)
theorem parseP_good {l : List UInt8} {ts : List Tk} {a : Nat} {M : ModD} {r : List Tk} (h : Lx.lexL l = (ts, 0, a)) (hm : Px.module l.length 6001 ts = .ok M r) : Px.parseP l = (some M, 0, 0) := by
 rw [parseP_ok h, hm]
theorem parseP_end {l : List UInt8} {ts : List Tk} {a : Nat} (h : Lx.lexL l = (ts, 0, a)) (hm : Px.module l.length 6001 ts = .bad []) : Px.parseP l = (none, 5, l.length) := by
 rw [parseP_ok h, hm]
theorem parseP_bad {l : List UInt8} {ts r : List Tk} {t : Tk} {a : Nat} (h : Lx.lexL l = (ts, 0, a)) (hm : Px.module l.length 6001 ts = .bad (t :: r)) : Px.parseP l = (none, 4, t.off) := by
 rw [parseP_ok h, hm]
/-- a beginning that ends before the token with the error, or any, if there is none -/
theorem module_begin (a b : Nat) {u v r : List Tk} (h : ∀ s, s ≠ [] → Px.module a 6001 (u ++ v) ≠ .bad (s ++ v)) : (∃ M s, Px.module b 6001 u = .ok M s) ∨ Px.module b 6001 u = .bad [] := by
 rcases (ll_module b a 6001).loc u v with ⟨M, s, _, h1, _⟩ | ⟨s, hs, _, h2⟩ | ⟨h1, _⟩
 ·exact .inl ⟨M, s, h1⟩
 ·exact absurd h2 (h s hs)
 ·cases hq : Px.module b 6001 u with
  | ok M s => exact .inl ⟨M, s, rfl⟩
  | bad s => rw [hq] at h1; exact .inr (by rw [show s = [] from h1])
theorem module_upto (a b : Nat) {u v : List Tk} {t : Tk} (h : Px.module a 6001 (u ++ t :: v) = .bad (t :: v)) : Px.module b 6001 (u ++ [t]) = .bad [t] := by
 have e : u ++ t :: v = (u ++ [t]) ++ v := by simp
 rw [e] at h
 rcases (ll_module b a 6001).loc (u ++ [t]) v with ⟨M, s, _, _, h2⟩ | ⟨s, hs, h1, h2⟩ | ⟨_, h2⟩
 ·rw [h] at h2; cases h2
 ·rw [h] at h2
  injection h2 with h2
  have : s = [t] := by
   have e2 : [t] ++ v = s ++ v := h2
   exact (List.append_cancel_right e2).symm
  rw [h1, this]
 ·rw [h] at h2
  simp [Px.Res.left] at h2
  omega
/-- the law of first errors, plainly -/
theorem first_before {l : List UInt8} {ts : List Tk} {a : Nat} (h : Lx.lexL l = (ts, 0, a)) (n : Nat) (hn : n ≤ ts.length)
  (hb : (Px.parseP l).2.1 = 4 → ∃ t, ts[n]? = some t ∧ t.off = (Px.parseP l).2.2) (k : Nat) (hk : k < n) (t : Tk) (ht : ts[k]? = some t) :
  t.off + t.text.length ≤ l.length ∧ 0 < t.text.length ∧
  ((Px.parseP (l.take t.off)).2.1 = 0 ∨ ((Px.parseP (l.take t.off)).2.1 = 5 ∧ (Px.parseP (l.take t.off)).2.2 = t.off)) := by
 have hkl : k < ts.length := by omega
 have hs : ts = ts.take k ++ t :: ts.drop (k + 1) := by
  have h1 : ts.drop k = t :: ts.drop (k + 1) := by
   rw [List.drop_eq_getElem_cons hkl]
   rw [List.getElem?_eq_getElem hkl] at ht
   injection ht with ht
   rw [ht]
  rw [← h1, List.take_append_drop]
 have h' := h
 rw [hs] at h'
 obtain ⟨b1, b2, b3⟩ := Lx.lex_before h'
 refine ⟨b2, b3, ?_⟩
 have hlen : (l.take t.off).length = t.off := by rw [List.length_take]; omega
 have key : (∃ M s, Px.module (l.take t.off).length 6001 (ts.take k) = .ok M s) ∨ Px.module (l.take t.off).length 6001 (ts.take k) = .bad [] := by
  refine module_begin l.length _ (v := t :: ts.drop (k + 1)) (r := []) ?_
  intro s hs0 hbad
  rw [← hs] at hbad
  cases hq : s ++ t :: ts.drop (k + 1) with
  | nil => simp at hq
  | cons e r =>
   rw [hq] at hbad
   have he := parseP_bad h hbad
   rw [he] at hb
   obtain ⟨t2, ht2, ho⟩ := hb rfl
   simp only at ho
   obtain ⟨u, hu⟩ := (ll_module l.length l.length 6001).s1 ts
   rw [hbad] at hu
   have hu' : ts = u ++ e :: r := hu
   have hul : ts.length = u.length + (e :: r).length := by rw [hu', List.length_append]
   have hsl : (e :: r).length = s.length + (t :: ts.drop (k + 1)).length := by rw [← hq, List.length_append]
   have hsl2 : 0 < s.length := List.length_pos_iff.2 hs0
   have hdl : (t :: ts.drop (k + 1)).length = ts.length - k := by simp; omega
   have hun : u.length < n := by omega
   -- the token at n stands behind the one with the error, with the same offset
   have hnl : n < ts.length := by
    rcases Nat.lt_or_ge n ts.length with h | h
    ·exact h
    ·rw [List.getElem?_eq_none h] at ht2; cases ht2
   have hsn : ts = ts.take n ++ t2 :: ts.drop (n + 1) := by
    have h1 : ts.drop n = t2 :: ts.drop (n + 1) := by
     rw [List.drop_eq_getElem_cons hnl]
     rw [List.getElem?_eq_getElem hnl] at ht2
     injection ht2 with ht2
     rw [ht2]
    rw [← h1, List.take_append_drop]
   have h2 := h
   rw [hsn] at h2
   have hp := Lx.lex_place h2 e (by
    rw [hu', List.take_append, show n - u.length = (n - u.length - 1) + 1 from by omega, List.take_succ_cons]
    simp)
   exact hp ho.symm
 rcases key with ⟨M, s, hm⟩ | hm
 ·exact .inl (by rw [parseP_good b1 hm])
 ·exact .inr (by rw [parseP_end b1 hm]; exact ⟨rfl, hlen⟩)
theorem first_at {l : List UInt8} {ts : List Tk} {a : Nat} (h : Lx.lexL l = (ts, 0, a)) (he : (Px.parseP l).2.1 = 4) :
  ∃ u t r, ts = u ++ t :: r ∧ t.off = (Px.parseP l).2.2 ∧ (∀ x ∈ u, x.off ≠ t.off) ∧ t.off + t.text.length ≤ l.length ∧ Px.parseP (l.take (t.off + t.text.length)) = (none, 4, t.off) := by
 cases hm : Px.module l.length 6001 ts with
 | ok M r => rw [parseP_good h hm] at he; cases he
 | bad s =>
  cases s with
  | nil => rw [parseP_end h hm] at he; cases he
  | cons t r =>
   obtain ⟨u, hu⟩ := (ll_module l.length l.length 6001).s1 ts
   rw [hm] at hu
   have hu' : ts = u ++ t :: r := hu
   have h' := h
   rw [hu'] at h' hm
   obtain ⟨_, b2, _⟩ := Lx.lex_before h'
   refine ⟨u, t, r, hu', by rw [parseP_bad h' hm], Lx.lex_place h', b2, ?_⟩
   exact parseP_bad (Lx.lex_upto h') (module_upto _ _ hm)
/-- a text of tokens has no other errors -/
theorem err_cases {l : List UInt8} {ts : List Tk} {a : Nat} (h : Lx.lexL l = (ts, 0, a)) : (Px.parseP l).2.1 = 0 ∨ (Px.parseP l).2.1 = 5 ∨ (Px.parseP l).2.1 = 4 := by
 cases hm : Px.module l.length 6001 ts with
 | ok M r => rw [parseP_good h hm]; exact .inl rfl
 | bad s =>
  cases s with
  | nil => rw [parseP_end h hm]; exact .inr (.inl rfl)
  | cons t r => rw [parseP_bad h hm]; exact .inr (.inr rfl)
end Go.Proofs.YtpdhiminpdmpiaaGreatDoor
