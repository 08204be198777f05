/-
 The items of one module appended to another: what is read of the text.
-/
import Derived.Test.YtpdhiminpdmpiaaGreatDoorZR
import Derived.Test.YtpdhiminpdmpiaaGreatDoorZS
import Derived.Test.YtpdhiminpdmpiaaGreatDoorZT
set_option linter.unusedVariables false
set_option linter.unusedSimpArgs false
set_option linter.unusedSectionVars false
set_option linter.unusedVariables false
set_option linter.unusedSimpArgs false
set_option linter.unusedSectionVars false
namespace Go.Proofs.YtpdhiminpdmpiaaGreatDoor
open Lx (Tk)
open Px (Txt TyE VarD DataD TraitD BoundD ImplD ArgD ExprD StmtD ArmD FuncD ModD)
/-- a module with the items of another one behind its own -/
def plusM (A B : ModD) : ModD := ⟨A.name, A.uses, A.datas ++ B.datas, A.traits ++ B.traits, A.impls ++ B.impls, A.funcs ++ B.funcs⟩
theorem bind_eq {α β : Type} {p : Px.Rd α} {f : α → Px.Rd β} {ts s : List Tk} {a : α} (h : p ts = .ok a s) : (p >>= f) ts = f a s := by
 change Px.Rd.bind p f ts = _
 unfold Px.Rd.bind
 rw [h]
theorem plus_item {sz n : Nat} (A : ModD) {m m' : ModD} {ts r : List Tk} (h : Px.item sz n m ts = .ok m' r) : Px.item sz n (plusM A m) ts = .ok (plusM A m') r := by
 unfold Px.item at h ⊢
 obtain ⟨o, s0, h0, h⟩ := bind_ok h
 obtain ⟨w, s1, h1, h⟩ := bind_ok h
 rw [bind_eq h0, bind_eq h1]
 split at h
 ·rename_i hw
  rw [if_pos hw]
  obtain ⟨d, s2, h2, h⟩ := bind_ok h
  obtain ⟨rfl, rfl⟩ := pure_ok h
  rw [bind_eq h2]
  show Px.Res.ok _ _ = Px.Res.ok _ _
  simp [plusM]
 ·rename_i hw
  rw [if_neg hw]
  split at h
  ·rename_i hw
   rw [if_pos hw]
   obtain ⟨d, s2, h2, h⟩ := bind_ok h
   obtain ⟨rfl, rfl⟩ := pure_ok h
   rw [bind_eq h2]
   show Px.Res.ok _ _ = Px.Res.ok _ _
   simp [plusM]
  ·rename_i hw
   rw [if_neg hw]
   split at h
   ·rename_i hw
    rw [if_pos hw]
    obtain ⟨d, s2, h2, h⟩ := bind_ok h
    obtain ⟨rfl, rfl⟩ := pure_ok h
    rw [bind_eq h2]
    show Px.Res.ok _ _ = Px.Res.ok _ _
    simp [plusM]
   ·rename_i hw
    rw [if_neg hw]
    obtain ⟨d, s2, h2, h⟩ := bind_ok h
    obtain ⟨rfl, rfl⟩ := pure_ok h
    rw [bind_eq h2]
    show Px.Res.ok _ _ = Px.Res.ok _ _
    simp [plusM]
theorem plus_items {sz n : Nat} (A : ModD) : ∀ (k : Nat) {m M : ModD} {ts r : List Tk}, Px.itemsF sz n k m ts = .ok M r → Px.itemsF sz n k (plusM A m) ts = .ok (plusM A M) r := by
 intro k
 induction k with
 | zero => intro m M ts r h; cases h
 | succ k ih =>
  intro m M ts r h
  rw [Px.itemsF] at h ⊢
  obtain ⟨b, s0, h0, h⟩ := bind_ok h
  rw [bind_eq h0]
  split at h
  ·rename_i hb
   rw [if_pos hb]
   obtain ⟨rfl, rfl⟩ := pure_ok h
   rfl
  ·rename_i hb
   rw [if_neg hb]
   obtain ⟨m', s1, h1, h⟩ := bind_ok h
   rw [bind_eq (plus_item A h1)]
   exact ih h
theorem item_uses {sz n : Nat} {m m' : ModD} {ts r : List Tk} (h : Px.item sz n m ts = .ok m' r) : m'.uses = m.uses := by
 unfold Px.item at h
 obtain ⟨o, s0, h0, h⟩ := bind_ok h
 obtain ⟨w, s1, h1, h⟩ := bind_ok h
 repeat' split at h
 all_goals
  obtain ⟨d, s2, h2, h⟩ := bind_ok h
  obtain ⟨rfl, rfl⟩ := pure_ok h
  rfl
theorem items_uses {sz n : Nat} : ∀ (k : Nat) {m M : ModD} {ts r : List Tk}, Px.itemsF sz n k m ts = .ok M r → M.uses = m.uses := by
 intro k
 induction k with
 | zero => intro m M ts r h; cases h
 | succ k ih =>
  intro m M ts r h
  rw [Px.itemsF] at h
  obtain ⟨b, s0, h0, h⟩ := bind_ok h
  split at h
  ·obtain ⟨rfl, rfl⟩ := pure_ok h
   rfl
  ·obtain ⟨m', s1, h1, h⟩ := bind_ok h
   rw [ih h, item_uses h1]
theorem uses_more : ∀ (k : Nat) {l us : List Txt} {ts r : List Tk}, Px.usesF k l ts = .ok us r → l.length ≤ us.length ∧ (us.length = l.length → us = l ∧ r = ts ∧ Px.word ts ≠ [117, 115, 101]) := by
 intro k
 induction k with
 | zero => intro l us ts r h; cases h
 | succ k ih =>
  intro l us ts r h
  rw [Px.usesF] at h
  obtain ⟨b, s0, h0, h⟩ := bind_ok h
  split at h
  ·obtain ⟨x, s1, h1, h⟩ := bind_ok h
   obtain ⟨_, s2, h2, h⟩ := bind_ok h
   obtain ⟨i1, _⟩ := ih h
   simp at i1
   exact ⟨by omega, fun e => by omega⟩
  ·rename_i hb
   obtain ⟨rfl, rfl⟩ := pure_ok h
   refine ⟨Nat.le_refl _, fun _ => ⟨rfl, ?_, ?_⟩⟩
   ·unfold Px.accept at h0
    split at h0
    ·cases h0; exact absurd rfl hb
    ·cases h0; rfl
   ·unfold Px.accept at h0
    split at h0
    ·cases h0; exact absurd rfl hb
    ·rename_i hw
     intro e
     exact hw (by rw [e]; decide)
theorem sim_shift (a b : Nat) : ∀ zs : List Tk, Sim (zs.map (Lx.shift a)) (zs.map (Lx.shift b))
 | [] => trivial
 | z :: zs => ⟨rfl, rfl, rfl, sim_shift a b zs⟩
theorem Likes.plus {A B B' : ModD} (h : Like eMod B B') : Like eMod (plusM A B) (plusM A B') := by
 obtain ⟨h1, h2, h3, h4, h5, h6⟩ := eMod_eq h
 show eMod _ = eMod _
 simp only [eMod, plusM, List.map_append]
 rw [h3, h4, h5, h6]
/-- items that are read elsewhere, behind other ones -/
theorem items_moved {a b k k' : Nat} {m0 A B : ModD} {u v r : List Tk} (h : Px.itemsF a 6001 k m0 u = .ok B r) (hm : A = plusM A m0) (hs : Sim u v) (hk : u.length + 1 ≤ k') : ∃ B', Px.itemsF b 6001 k' A v = .ok (plusM A B') [] ∧ Like eMod B B' := by
 obtain ⟨rfl, j, hj, hk2⟩ := items_app a 6001 k _ B u r h
 have h1 : Px.itemsF a 6001 k' m0 u = .ok B [] := by
  have := hk2 a (k' - j) []
  rw [List.append_nil, show k' - j + j = k' from by omega] at this
  rw [this]
  obtain ⟨c, hc⟩ : ∃ c, k' - j = c + 1 := ⟨k' - j - 1, by omega⟩
  rw [hc]
  rfl
 have h2 := nn_items a b 6001 k' m0 m0 rfl u v hs
 rw [h1] at h2
 cases hq : Px.itemsF b 6001 k' m0 v with
 | bad s => rw [hq] at h2; exact h2.elim
 | ok B' s =>
  rw [hq] at h2
  obtain ⟨h3, h4⟩ := h2
  have hs' : s = [] := by
   cases s with
   | nil => rfl
   | cons x s => exact h4.elim
  subst hs'
  refine ⟨B', ?_, h3⟩
  have := plus_items A k' hq
  rw [← hm] at this
  exact this
/-- the text of one module, a line feed, and the items of another one that uses none -/
theorem items_law {one two : List UInt8} {ts1 ts2 r r' : List Tk} {a1 a2 : Nat} {A B : ModD} (h1 : Lx.lexL one = (ts1, 0, a1)) (h2 : Lx.lexL two = (ts2, 0, a2)) (m1 : Px.module one.length 6001 ts1 = .ok A r) (m2 : Px.module two.length 6001 ts2 = .ok B r')
  (hB : B.uses = []) (l1 : one.length ≤ 1000) (l2 : two.length ≤ 1000) :
  ∃ t0 t1 t2 r3, ts2 = t0 :: t1 :: t2 :: r3 ∧ t2.off + 1 ≤ two.length ∧ ∃ ts C, Lx.lexL (one ++ 10 :: two.drop (t2.off + 1)) = (ts, 0, 0) ∧ Px.module (one ++ 10 :: two.drop (t2.off + 1)).length 6001 ts = .ok C [] ∧ factsM false C = factsM false (plusM A B) := by
 obtain ⟨t0, t1, t2, us, r3, r4, rfl, e0, e1, e1', e2, hu, hi⟩ := module_parts m2
 obtain ⟨hle, zs, hz, hr3⟩ := Lx.lex_rest h2 e2
 have hus : us = [] := by
  have := items_uses _ hi
  rw [hB] at this
  exact this.symm
 subst hus
 obtain ⟨_, hr4, hw⟩ := (uses_more _ hu).2 rfl
 subst hr4
 have c1 := Lx.lex_count h1
 have c2 := Lx.lex_count h2
 simp only [List.length_cons] at c2
 have hzl : r4.length = zs.length := by rw [hr3, List.length_map]
 have hlx := Lx.lex_join h1 hz (by omega) (by rw [List.length_drop]; omega)
 have hsim : Sim r4 (zs.map (Lx.shift (one.length + 1))) := by rw [hr3]; exact sim_shift _ _ zs
 obtain ⟨k', hk', hmod⟩ := module_app m1 (by omega) (one ++ 10 :: two.drop (t2.off + 1)).length (zs.map (Lx.shift (one.length + 1))) (by rw [← hsim.word]; exact hw)
 obtain ⟨B', hB', hlike⟩ := items_moved (A := A) (b := (one ++ 10 :: two.drop (t2.off + 1)).length) (k' := k') hi (by simp [plusM]) hsim (by omega)
 exact ⟨t0, t1, t2, r4, rfl, hle, _, plusM A B', hlx, by rw [hmod]; exact hB', facts_like (Likes.plus (A := A) hlike).symm⟩
end Go.Proofs.YtpdhiminpdmpiaaGreatDoor
