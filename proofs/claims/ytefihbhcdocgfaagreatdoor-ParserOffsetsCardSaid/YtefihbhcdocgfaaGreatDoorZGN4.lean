/-
  A key word in place of a module's name, and a further semicolon: what Parse answers.
-/
import Derived.Test.YtefihbhcdocgfaaGreatDoorZGN3
import Derived.Test.YtefihbhcdocgfaaGreatDoorZM7
set_option linter.unusedVariables false
set_option linter.unusedSimpArgs false
set_option linter.unusedSectionVars false

namespace Go.Proofs.YtefihbhcdocgfaaGreatDoor
open Lx (Tk)
open Px (Txt TyE VarD DataD TraitD BoundD ImplD ArgD ExprD StmtD ArmD FuncD ModD)

theorem good_module {l : List UInt8} {ts : List Tk} {a : Nat} (h : Lx.lexL l = (ts, 0, a)) (he : (Px.parseP l).2.1 = 0) : ∃ M r, Px.module l.length 6001 ts = .ok M r := by
  cases hm : Px.module l.length 6001 ts with
  | ok M r => exact ⟨M, r, rfl⟩
  | bad s =>
    cases s with
    | nil => rw [parseP_end h hm] at he; cases he
    | cons t r => rw [parseP_bad h hm] at he; cases he
theorem kind_letter {l : List UInt8} {xs r : List Tk} {t : Tk} {a : Nat} (h : Lx.lexL l = (xs ++ t :: r, 0, a)) {c : UInt8} {x : Txt} (ht : t.text = c :: x) (hc : Lx.letterB c = true) : t.kind = 1 := by
  obtain ⟨_, _, _, h4⟩ := Lx.lex_chain l (by rw [h])
  rw [h] at h4
  simp only at h4
  obtain ⟨c1, c2, c3, c4, c5⟩ := Lx.chain_at l _ _ xs.length t h4 (by simp)
  rw [ht] at c3
  cases hd : l.drop t.off with
  | nil => rw [hd] at c3; simp at c3
  | cons d z =>
    rw [hd] at c3 c2
    simp at c3
    rw [← c3.1] at c2
    unfold Lx.tokAt at c2
    simp only [hc, if_true] at c2
    split at c2
    · injection c2 with c2 _; exact absurd c2.symm c1
    · injection c2 with c2 _; exact c2.symm
theorem keys_facts : ∀ k ∈ Px.keys, (k.head?.map Lx.letterB) = some true ∧ (∀ c ∈ k, Lx.wordB c = true) ∧ k.length ≤ 24 ∧ Px.keyB k = true := by decide +kernel
theorem keys_plain {l : List UInt8} {ts : List Tk} {a : Nat} (h : Lx.lexL l = (ts, 0, a)) (hl : l.length ≤ 1000) (he : (Px.parseP l).2.1 = 0) :
    ∃ t0 t1 r, ts = t0 :: t1 :: r ∧ t1.off + t1.text.length ≤ l.length ∧ (∀ k ∈ Px.keys, errP (l.take t1.off ++ k ++ l.drop (t1.off + t1.text.length)) = (4, t1.off)) ∧ errP (l ++ [10, 59]) = (4, l.length + 1) := by
  obtain ⟨M, r, hm⟩ := good_module h he
  obtain ⟨_, _, hn, _, _⟩ := lex_facts h
  obtain ⟨t0, t1, rest, rfl, h0, h1, hk⟩ := module_key hm 0
  have hkind : t0.kind = 1 := kind_letter (xs := []) h h0 (by decide)
  have hb : t1.off + t1.text.length ≤ l.length := (Lx.lex_before (xs := [t0]) h).2.1
  refine ⟨t0, t1, rest, rfl, hb, fun k hkm => ?_, ?_⟩
  · obtain ⟨k1, k2, k3, k4⟩ := keys_facts k hkm
    cases hk2 : k with
    | nil => rw [hk2] at k1; cases k1
    | cons c0 kr =>
      rw [← hk2]
      obtain ⟨r', hr'⟩ := Lx.lex_word h hkind h1 k c0 kr hk2 (by rw [hk2] at k1; simpa using k1) k2 k3 hl
      obtain ⟨t0', t1', rest', e', _, _, hk'⟩ := module_key hm (l.take t1.off ++ k ++ l.drop (t1.off + t1.text.length)).length
      simp only [List.cons.injEq] at e'
      obtain ⟨rfl, rfl, rfl⟩ := e'
      unfold errP
      rw [parseP_bad hr' (hk' ⟨1, k, 0, t1.off⟩ r' k4)]
  · have hs := Lx.lex_semi h hl
    unfold errP
    rw [parseP_bad hs (module_more hm hn _ _ rfl)]
end Go.Proofs.YtefihbhcdocgfaaGreatDoor
