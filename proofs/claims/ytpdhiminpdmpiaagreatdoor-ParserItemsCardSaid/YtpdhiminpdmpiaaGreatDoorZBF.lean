/-
 Items end with a token of their own: what follows them changes nothing.
-/
import Derived.Test.YtpdhiminpdmpiaaGreatDoorZQ
import Derived.Test.YtpdhiminpdmpiaaGreatDoorZT
set_option linter.unusedVariables false
set_option linter.unusedSimpArgs false
set_option linter.unusedSectionVars false
set_option linter.unusedVariables false
set_option linter.unusedSimpArgs false
set_option linter.unusedSectionVars false
namespace Go.Proofs.YtpdhiminpdmpiaaGreatDoor
open Lx (Tk)
open Px (Txt TyE VarD DataD TraitD BoundD ImplD ArgD ExprD StmtD ArmD FuncD ModD)
/-- what has been read is read whatever follows -/
def Tt {α : Type} (p q : Px.Rd α) : Prop := ∀ u v a r, p u = .ok a r → q (u ++ v) = .ok a (r ++ v)
theorem LL.ok {α : Type} {p q : Px.Rd α} (h : LL p q) {u v : List Tk} {a : α} {r : List Tk} (e : p u = .ok a r) (hr : r ≠ []) : q (u ++ v) = .ok a (r ++ v) := by
 rcases h.loc u v with ⟨b, s, _, h1, h2⟩ | ⟨s, _, h1, _⟩ | ⟨h1, _⟩
 ·rw [e] at h1; cases h1; exact h2
 ·rw [e] at h1; cases h1
 ·rw [e] at h1; exact absurd h1 hr
theorem Tt.then {α β : Type} {p q : Px.Rd α} {f g : α → Px.Rd β} (hp : Tt p q) (hf : ∀ a, Tt (f a) (g a)) : Tt (p >>= f) (q >>= g) := by
 intro u v b r h
 change Px.Rd.bind p f u = _ at h
 show Px.Rd.bind q g (u ++ v) = _
 unfold Px.Rd.bind at *
 cases hq : p u with
 | bad s => rw [hq] at h; cases h
 | ok a s =>
  rw [hq] at h
  rw [hp u v a s hq]
  exact hf a s v b r h
theorem Tt.look {α β : Type} {p q : Px.Rd α} {f g : α → Px.Rd β} (hp : LL p q) (hs : ∀ a, Strict (f a)) (hf : ∀ a, Tt (f a) (g a)) : Tt (p >>= f) (q >>= g) := by
 intro u v b r h
 change Px.Rd.bind p f u = _ at h
 show Px.Rd.bind q g (u ++ v) = _
 unfold Px.Rd.bind at *
 cases hq : p u with
 | bad s => rw [hq] at h; cases h
 | ok a s =>
  rw [hq] at h
  have hs0 : s ≠ [] := by
   rintro rfl
   have := hs a _ _ _ h
   simp at this
  rw [hp.ok hq hs0]
  exact hf a s v b r h
theorem Tt.ite {α : Type} {c : Prop} [Decidable c] {p q p' q' : Px.Rd α} (h : Tt p p') (h' : Tt q q') : Tt (if c then p else q) (if c then p' else q') := by
 split
 ·exact h
 ·exact h'
theorem Tt.pure {α : Type} (a : α) : Tt (Pure.pure a : Px.Rd α) (Pure.pure a) := by
 intro u v b r h
 change Px.Res.ok a u = .ok b r at h
 cases h; rfl
theorem Tt.name : Tt Px.name Px.name := by
 intro u v a r h
 cases u with
 | nil => cases h
 | cons t u =>
  simp only [Px.name, List.cons_append] at *
  split at h
  ·rename_i hc; cases h; rw [if_pos hc]
  ·cases h
theorem Tt.number : Tt Px.number Px.number := by
 intro u v a r h
 cases u with
 | nil => cases h
 | cons t u =>
  simp only [Px.number, List.cons_append] at *
  split at h
  ·rename_i hc; cases h; rw [if_pos hc]
  ·cases h
theorem Tt.expect {ws : List Txt} (hne : ws.contains [] = false) : Tt (Px.expect ws) (Px.expect ws) := by
 intro u v a r h
 cases u with
 | nil =>
  unfold Px.expect at h
  rw [if_neg (by simp only [Px.word]; rw [hne]; decide)] at h
  cases h
 | cons t u =>
  by_cases hc : ws.contains t.text = true
  ·have e : Px.expect ws (t :: u) = .ok t.text u := by unfold Px.expect; exact if_pos hc
   rw [e] at h; cases h
   unfold Px.expect; exact if_pos hc
  ·have e : Px.expect ws (t :: u) = .bad (t :: u) := by unfold Px.expect; exact if_neg hc
   rw [e] at h; cases h
theorem Strict.expect {ws : List Txt} (hne : ws.contains [] = false) : Strict (Px.expect ws) := fun _ _ _ h => expect_len h hne
theorem Strict.number : Strict Px.number := by
 intro ts a r h
 cases ts with
 | nil => cases h
 | cons t r' =>
  simp only [Px.number] at h
  split at h
  ·cases h; simp
  ·cases h
theorem Strict.ite {α : Type} {c : Prop} [Decidable c] {p q : Px.Rd α} (h : Strict p) (h' : Strict q) : Strict (if c then p else q) := by
 split
 ·exact h
 ·exact h'
theorem untilT_nil {α : Type} {p : Px.Rd α} (h1 : Strict p) (n : Nat) (acc a : List α) (r : List Tk) : Px.untilT p n acc [] ≠ .ok a r := by
 cases n with
 | zero => intro h; cases h
 | succ n =>
  intro h
  have ha : Px.accept [[125]] [] = .ok false [] := rfl
  cases hr : p [] with
  | ok b s => have := h1 _ _ _ hr; simp at this
  | bad s => rw [untilT_bad ha hr] at h; cases h
theorem tt_untilT {α : Type} {p q : Px.Rd α} (h : LL p q) (h1 : Strict p) : ∀ (n : Nat) (acc : List α), Tt (Px.untilT p n acc) (Px.untilT q n acc)
 | 0, _ => fun u v a r e => by cases e
 | n + 1, acc => fun u v a r e => by
  cases u with
  | nil => exact absurd e (untilT_nil h1 _ _ _ _)
  | cons t u =>
   by_cases hc : ([[125]] : List Txt).contains t.text = true
   ·have e1 : Px.accept [[125]] (t :: u) = .ok true u := by unfold Px.accept; exact if_pos hc
    have e2 : Px.accept [[125]] (t :: u ++ v) = .ok true (u ++ v) := by unfold Px.accept; exact if_pos hc
    rw [untilT_no e1] at e
    cases e
    exact untilT_no e2
   ·have e1 : Px.accept [[125]] (t :: u) = .ok false (t :: u) := by unfold Px.accept; exact if_neg hc
    have e2 : Px.accept [[125]] (t :: u ++ v) = .ok false (t :: u ++ v) := by unfold Px.accept; exact if_neg hc
    cases hr : p (t :: u) with
    | bad s => rw [untilT_bad e1 hr] at e; cases e
    | ok b s =>
     rw [untilT_ok e1 hr] at e
     have hs0 : s ≠ [] := by rintro rfl; exact absurd e (untilT_nil h1 _ _ _ _)
     rw [untilT_ok e2 (h.ok hr hs0)]
     exact tt_untilT h h1 n _ s v a r e
theorem tt_block {p q : Px.Rd StmtD} (h : LL p q) (h1 : Strict p) (h2 : Strict q) : Tt (Px.block p) (Px.block q) :=
 Tt.then (Tt.expect rfl) fun _ u v a r e => by
  rw [until_fuel h1 ((u ++ v).length + 1) u (by simp; omega)] at e
  rw [until_fuel h2 ((u ++ v).length + 1) (u ++ v) (by omega)]
  exact tt_untilT h h1 _ _ u v a r e
theorem tt_trait (o : Nat) : Tt (Px.trait o) (Px.trait o) := by
 unfold Px.trait
 exact Tt.then Tt.name fun _ => Tt.then (Tt.expect rfl) fun _ => Tt.pure _
theorem tt_data (a b n o : Nat) : Tt (Px.data a n o) (Px.data b n o) := by
 unfold Px.data
 exact Tt.then Tt.name fun _ => Tt.look ll_params (fun _ => Strict.left (Strict.expect rfl) (by repeat' (first | exact Shr.pure _ | exact Shr.name | exact Shr.expect _ | exact Shr.accept _ | exact shr_dropAction | exact Shr.list (shr_variant _ _) | exact shr_typeF _ _ | exact shr_bounds _ | exact shr_signature _ _ | exact shr_block (shr_stmtF _ _ _) | exact shr_data _ _ _ | exact shr_trait _ | exact shr_impl _ _ _ | exact shr_function _ _ _ | apply Shr.bind | apply Shr.ite | intro _))) fun _ => Tt.then (Tt.expect rfl) fun _ => Tt.look (LL.list (ll_variant a b n)) (fun _ => Strict.left (Strict.expect rfl) (by repeat' (first | exact Shr.pure _ | exact Shr.name | exact Shr.expect _ | exact Shr.accept _ | exact shr_dropAction | exact Shr.list (shr_variant _ _) | exact shr_typeF _ _ | exact shr_bounds _ | exact shr_signature _ _ | exact shr_block (shr_stmtF _ _ _) | exact shr_data _ _ _ | exact shr_trait _ | exact shr_impl _ _ _ | exact shr_function _ _ _ | apply Shr.bind | apply Shr.ite | intro _))) fun _ => Tt.then (Tt.expect rfl) fun _ =>
  Tt.look (LL.accept _) (fun _ => Strict.ite (Strict.right shr_dropAction (fun _ => Strict.left (Strict.expect rfl) (by repeat' (first | exact Shr.pure _ | exact Shr.name | exact Shr.expect _ | exact Shr.accept _ | exact shr_dropAction | exact Shr.list (shr_variant _ _) | exact shr_typeF _ _ | exact shr_bounds _ | exact shr_signature _ _ | exact shr_block (shr_stmtF _ _ _) | exact shr_data _ _ _ | exact shr_trait _ | exact shr_impl _ _ _ | exact shr_function _ _ _ | apply Shr.bind | apply Shr.ite | intro _)))) (Strict.left (Strict.expect rfl) (by repeat' (first | exact Shr.pure _ | exact Shr.name | exact Shr.expect _ | exact Shr.accept _ | exact shr_dropAction | exact Shr.list (shr_variant _ _) | exact shr_typeF _ _ | exact shr_bounds _ | exact shr_signature _ _ | exact shr_block (shr_stmtF _ _ _) | exact shr_data _ _ _ | exact shr_trait _ | exact shr_impl _ _ _ | exact shr_function _ _ _ | apply Shr.bind | apply Shr.ite | intro _)))) fun _ => Tt.ite (Tt.look ll_dropAction (fun _ => Strict.left (Strict.expect rfl) (by repeat' (first | exact Shr.pure _ | exact Shr.name | exact Shr.expect _ | exact Shr.accept _ | exact shr_dropAction | exact Shr.list (shr_variant _ _) | exact shr_typeF _ _ | exact shr_bounds _ | exact shr_signature _ _ | exact shr_block (shr_stmtF _ _ _) | exact shr_data _ _ _ | exact shr_trait _ | exact shr_impl _ _ _ | exact shr_function _ _ _ | apply Shr.bind | apply Shr.ite | intro _))) fun _ => Tt.then (Tt.expect rfl) fun _ => Tt.pure _) (Tt.then (Tt.expect rfl) fun _ => Tt.pure _)
theorem tt_impl (a b n o : Nat) : Tt (Px.implementation a n o) (Px.implementation b n o) := by
 unfold Px.implementation
 exact Tt.look ll_params (fun _ => Strict.left Strict.name (by repeat' (first | exact Shr.pure _ | exact Shr.name | exact Shr.expect _ | exact Shr.accept _ | exact shr_dropAction | exact Shr.list (shr_variant _ _) | exact shr_typeF _ _ | exact shr_bounds _ | exact shr_signature _ _ | exact shr_block (shr_stmtF _ _ _) | exact shr_data _ _ _ | exact shr_trait _ | exact shr_impl _ _ _ | exact shr_function _ _ _ | apply Shr.bind | apply Shr.ite | intro _))) fun _ => Tt.then Tt.name fun _ => Tt.then (Tt.expect rfl) fun _ => Tt.look (ll_typeF a b n) (fun _ => Strict.right (shr_bounds _) (fun _ => Strict.left (Strict.expect rfl) (by repeat' (first | exact Shr.pure _ | exact Shr.name | exact Shr.expect _ | exact Shr.accept _ | exact shr_dropAction | exact Shr.list (shr_variant _ _) | exact shr_typeF _ _ | exact shr_bounds _ | exact shr_signature _ _ | exact shr_block (shr_stmtF _ _ _) | exact shr_data _ _ _ | exact shr_trait _ | exact shr_impl _ _ _ | exact shr_function _ _ _ | apply Shr.bind | apply Shr.ite | intro _)))) fun _ => Tt.look (ll_bounds a b) (fun _ => Strict.left (Strict.expect rfl) (by repeat' (first | exact Shr.pure _ | exact Shr.name | exact Shr.expect _ | exact Shr.accept _ | exact shr_dropAction | exact Shr.list (shr_variant _ _) | exact shr_typeF _ _ | exact shr_bounds _ | exact shr_signature _ _ | exact shr_block (shr_stmtF _ _ _) | exact shr_data _ _ _ | exact shr_trait _ | exact shr_impl _ _ _ | exact shr_function _ _ _ | apply Shr.bind | apply Shr.ite | intro _))) fun _ =>
  Tt.then (Tt.expect rfl) fun _ => Tt.then Tt.name fun _ => Tt.then (Tt.expect rfl) fun _ => Tt.pure _
theorem tt_function (a b n o : Nat) : Tt (Px.function a n o) (Px.function b n o) := by
 have hb : ∀ {α : Type} (f : List StmtD → Px.Rd α), (∀ l, Shr (f l)) → Strict (Px.block (Px.stmtF a n n) >>= f) := fun f hf =>
  Strict.left (Strict.left (Strict.expect rfl) fun _ => Shr.until (shr_stmtF _ _ _)) hf
 unfold Px.function
 exact Tt.then Tt.name fun _ => Tt.look ll_params (fun _ => Strict.right (shr_signature _ _) fun _ => Strict.right (shr_bounds _) fun _ => hb _ fun _ => Shr.pure _) fun _ =>
  Tt.look (ll_signature a b n) (fun _ => Strict.right (shr_bounds _) fun _ => hb _ fun _ => Shr.pure _) fun _ => Tt.look (ll_bounds a b) (fun _ => hb _ fun _ => Shr.pure _) fun _ =>
  Tt.then (tt_block (ll_stmtF a b n n) (strict_stmtF a n n) (strict_stmtF b n n)) fun _ => Tt.pure _
theorem tt_item (a b n : Nat) (m : ModD) : Tt (Px.item a n m) (Px.item b n m) := by
 unfold Px.item
 exact Tt.look (LL.offset a b) (fun _ => Strict.left (Strict.expect rfl) (by repeat' (first | exact Shr.pure _ | exact Shr.name | exact Shr.expect _ | exact Shr.accept _ | exact shr_dropAction | exact Shr.list (shr_variant _ _) | exact shr_typeF _ _ | exact shr_bounds _ | exact shr_signature _ _ | exact shr_block (shr_stmtF _ _ _) | exact shr_data _ _ _ | exact shr_trait _ | exact shr_impl _ _ _ | exact shr_function _ _ _ | apply Shr.bind | apply Shr.ite | intro _))) fun _ => Tt.then (Tt.expect rfl) fun _ => Tt.ite (Tt.then (tt_data a b n _) fun _ => Tt.pure _) (Tt.ite (Tt.then (tt_trait _) fun _ => Tt.pure _) (Tt.ite (Tt.then (tt_impl a b n _) fun _ => Tt.pure _) (Tt.then (tt_function a b n _) fun _ => Tt.pure _)))
/-- items, and what follows them -/
theorem items_app (a n : Nat) : ∀ (k : Nat) (m M : ModD) (u r : List Tk), Px.itemsF a n k m u = .ok M r → r = [] ∧ ∃ j, j ≤ u.length ∧ ∀ (b k' : Nat) (v : List Tk), Px.itemsF b n (k' + j) m (u ++ v) = Px.itemsF b n k' M v
 | 0, _, _, _, _, h => by cases h
 | k + 1, m, M, u, r, h => by
  cases u with
  | nil =>
   rw [itemsF_no] at h
   cases h
   exact ⟨rfl, 0, by simp, fun b k' v => rfl⟩
  | cons t u =>
   cases hi : Px.item a n m (t :: u) with
   | bad s => rw [itemsF_bad hi] at h; cases h
   | ok m1 s =>
    rw [itemsF_ok hi] at h
    obtain ⟨h1, j, h2, h3⟩ := items_app a n k m1 M s r h
    have hl := (item_sizes hi).2
    refine ⟨h1, j + 1, by simp at hl ⊢; omega, fun b k' v => ?_⟩
    have ht := tt_item a b n m (t :: u) v m1 s hi
    rw [List.cons_append] at ht ⊢
    rw [show k' + (j + 1) = (k' + j) + 1 from by omega, itemsF_ok ht]
    exact h3 b k' v
theorem uses_app : ∀ (k : Nat) (l us : List Txt) (u r : List Tk), Px.usesF k l u = .ok us r → ∀ v : List Tk, (r = [] → Px.word v ≠ [117, 115, 101]) → Px.usesF k l (u ++ v) = .ok us (r ++ v)
 | 0, _, _, _, _, h, _, _ => by cases h
 | k + 1, l, us, u, r, h, v, hv => by
  have hw : ∀ (v : List Tk), Px.word v ≠ [117, 115, 101] → Px.accept [[117, 115, 101]] v = .ok false v := fun v h => by
   simp only [Px.accept]; rw [if_neg (by simpa using h)]
  cases u with
  | nil =>
   rw [usesF_no rfl] at h
   cases h
   rw [List.nil_append, usesF_no (hw v (hv rfl))]
  | cons t u =>
   by_cases hc : ([[117, 115, 101]] : List Txt).contains t.text = true
   ·have e1 : Px.accept [[117, 115, 101]] (t :: u) = .ok true u := by unfold Px.accept; exact if_pos hc
    have e2 : Px.accept [[117, 115, 101]] (t :: u ++ v) = .ok true (u ++ v) := by unfold Px.accept; exact if_pos hc
    cases hn : Px.name u with
    | bad s => rw [usesF_bad e1 hn] at h; cases h
    | ok x s =>
     cases he : Px.expect [[59]] s with
     | bad s2 => rw [usesF_bad2 e1 hn he] at h; cases h
     | ok y s2 =>
      rw [usesF_ok e1 hn he] at h
      rw [usesF_ok e2 (Tt.name _ v _ _ hn) (Tt.expect rfl _ v _ _ he)]
      exact uses_app k _ us s2 r h v hv
   ·have e1 : Px.accept [[117, 115, 101]] (t :: u) = .ok false (t :: u) := by unfold Px.accept; exact if_neg hc
    have e2 : Px.accept [[117, 115, 101]] (t :: u ++ v) = .ok false (t :: u ++ v) := by unfold Px.accept; exact if_neg hc
    rw [usesF_no e1] at h
    cases h
    exact usesF_no e2
/-- a module, in parts -/
theorem module_parts {a n : Nat} {ts r : List Tk} {M : ModD} (h : Px.module a n ts = .ok M r) : ∃ (t0 t1 t2 : Tk) (us : List Txt) (r3 r4 : List Tk), ts = t0 :: t1 :: t2 :: r3 ∧ t0.text = [109, 111, 100, 117, 108, 101] ∧ t1.kind = 1 ∧ Px.keyB t1.text = false ∧ t2.text = [59] ∧
  Px.usesF n [] r3 = .ok us r4 ∧ Px.itemsF a n n ⟨t1.text, us, [], [], [], []⟩ r4 = .ok M r := by
 unfold Px.module at h
 simp only [bind, Px.Rd.bind] at h
 cases ts with
 | nil => cases h
 | cons t0 ts =>
  by_cases h0 : ([[109, 111, 100, 117, 108, 101]] : List Txt).contains t0.text = true
  ·have e0 : Px.expect [[109, 111, 100, 117, 108, 101]] (t0 :: ts) = .ok t0.text ts := by unfold Px.expect; exact if_pos h0
   rw [e0] at h
   simp only at h
   cases ts with
   | nil => cases h
   | cons t1 ts =>
    by_cases h1 : t1.kind = 1 ∧ Px.keyB t1.text = false
    ·have e1 : Px.name (t1 :: ts) = .ok t1.text ts := by simp only [Px.name]; rw [if_pos h1]
     rw [e1] at h
     simp only at h
     cases ts with
     | nil => cases h
     | cons t2 ts =>
      by_cases h2 : ([[59]] : List Txt).contains t2.text = true
      ·have e2 : Px.expect [[59]] (t2 :: ts) = .ok t2.text ts := by unfold Px.expect; exact if_pos h2
       rw [e2] at h
       simp only at h
       cases hu : Px.usesF n [] ts with
       | bad s => rw [hu] at h; cases h
       | ok us r4 =>
        rw [hu] at h
        exact ⟨t0, t1, t2, us, ts, r4, rfl, by simpa using h0, h1.1, h1.2, by simpa using h2, hu, h⟩
      ·have e2 : Px.expect [[59]] (t2 :: ts) = .bad (t2 :: ts) := by unfold Px.expect; exact if_neg h2
       rw [e2] at h; cases h
    ·have e1 : Px.name (t1 :: ts) = .bad (t1 :: ts) := by simp only [Px.name]; rw [if_neg h1]
     rw [e1] at h; cases h
  ·have e0 : Px.expect [[109, 111, 100, 117, 108, 101]] (t0 :: ts) = .bad (t0 :: ts) := by unfold Px.expect; exact if_neg h0
   rw [e0] at h; cases h
theorem uses_len : ∀ (k : Nat) (l us : List Txt) (u r : List Tk), Px.usesF k l u = .ok us r → r.length ≤ u.length := fun k l us u r h => (ll_usesF k l).s1.shr.ok h
theorem module_of {n : Nat} (b : Nat) {t0 t1 t2 : Tk} {r3 : List Tk} (h0 : t0.text = [109, 111, 100, 117, 108, 101]) (h1 : t1.kind = 1) (h1' : Px.keyB t1.text = false) (h2 : t2.text = [59]) {us : List Txt} {r4 : List Tk} (hu : Px.usesF n [] r3 = .ok us r4) :
  Px.module b n (t0 :: t1 :: t2 :: r3) = Px.itemsF b n n ⟨t1.text, us, [], [], [], []⟩ r4 := by
 unfold Px.module
 simp only [bind, Px.Rd.bind]
 have e0 : Px.expect [[109, 111, 100, 117, 108, 101]] (t0 :: t1 :: t2 :: r3) = .ok t0.text (t1 :: t2 :: r3) := by unfold Px.expect; exact if_pos (show ([[109, 111, 100, 117, 108, 101]] : List Txt).contains t0.text = true by rw [h0]; decide)
 have e1 : Px.name (t1 :: t2 :: r3) = .ok t1.text (t2 :: r3) := by simp only [Px.name]; rw [if_pos ⟨h1, h1'⟩]
 have e2 : Px.expect [[59]] (t2 :: r3) = .ok t2.text r3 := by unfold Px.expect; exact if_pos (show ([[59]] : List Txt).contains t2.text = true by rw [h2]; decide)
 simp only [e0, e1, e2, hu]
/-- a module, and further tokens that begin no use -/
theorem module_app {a : Nat} {ts r : List Tk} {M : ModD} (h : Px.module a 6001 ts = .ok M r) (hl : ts.length ≤ 6000) (b : Nat) (v : List Tk) (hv : Px.word v ≠ [117, 115, 101]) :
  ∃ k', 6001 - ts.length ≤ k' ∧ Px.module b 6001 (ts ++ v) = Px.itemsF b 6001 k' M v := by
 obtain ⟨t0, t1, t2, us, r3, r4, rfl, h0, h1, h1', h2, hu, hi⟩ := module_parts h
 obtain ⟨_, j, hj, hk⟩ := items_app a 6001 6001 _ M r4 r hi
 have hl4 := uses_len _ _ _ _ _ hu
 simp at hl
 refine ⟨6001 - j, by simp; omega, ?_⟩
 have e : t0 :: t1 :: t2 :: r3 ++ v = t0 :: t1 :: t2 :: (r3 ++ v) := rfl
 rw [e, module_of b h0 h1 h1' h2 (uses_app _ _ _ _ _ hu v (fun _ => hv))]
 have := hk b (6001 - j) v
 rw [show 6001 - j + j = 6001 from by omega] at this
 exact this
end Go.Proofs.YtpdhiminpdmpiaaGreatDoor
/-
 A key word in place of a module's name, and a further semicolon: what Parse answers.
-/
set_option linter.unusedVariables false
set_option linter.unusedSimpArgs false
set_option linter.unusedSectionVars false
namespace Go.Proofs.YtpdhiminpdmpiaaGreatDoor
open Lx (Tk)
open Px (Txt TyE VarD DataD TraitD BoundD ImplD ArgD ExprD StmtD ArmD FuncD ModD)
end Go.Proofs.YtpdhiminpdmpiaaGreatDoor
