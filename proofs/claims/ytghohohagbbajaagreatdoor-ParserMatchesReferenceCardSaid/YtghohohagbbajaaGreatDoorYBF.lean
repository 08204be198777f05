/- part of the proof -/
import Derived.Test.YtghohohagbbajaaGreatDoorYQ
import Derived.Test.YtghohohagbbajaaGreatDoorYT
set_option linter.unusedVariables false
set_option linter.unusedSimpArgs false
set_option linter.unusedSectionVars false
namespace Go.Proofs.YtghohohagbbajaaGreatDoor
open Lx (Tk)
open Px (Txt TyE VarD DataD TraitD BoundD ImplD ArgD ExprD StmtD ArmD FuncD ModD)
def Tt {α:Type} (p q:Px.Rd α):Prop:=∀ u v a r,p u=.ok a r→q (u ++ v)=.ok a (r ++ v)
theorem LL.ok {α:Type} {p q:Px.Rd α} (h:LL p q) {u v:List Tk} {a:α} {r:List Tk} (e:p u=.ok a r) (hr:r≠[]):q (u ++ v)=.ok a (r ++ v):=by
 rcases h.loc u v with ⟨b,s,_,h1,h2⟩|⟨s,_,h1,_⟩|⟨h1,_⟩
 ·rw[e] at h1;cases h1;exact h2
 ·rw[e] at h1;cases h1
 ·rw[e] at h1;exact absurd h1 hr
theorem Tt.then {α β:Type} {p q:Px.Rd α} {f g:α→Px.Rd β} (hp:Tt p q) (hf:∀ a,Tt (f a) (g a)):Tt (p >>= f) (q >>= g):=by
 intro u v b r h
 change Px.Rd.bind p f u=_ at h
 show Px.Rd.bind q g (u ++ v)=_
 unfold Px.Rd.bind at *
 cases hq:p u with
 | bad s=>rw[hq] at h;cases h
 | ok a s =>
  rw[hq] at h
  rw[hp u v a s hq]
  exact hf a s v b r h
theorem Tt.ite {α:Type} {c:Prop} [Decidable c] {p q p' q':Px.Rd α} (h:Tt p p') (h':Tt q q'):Tt (if c then p else q) (if c then p' else q'):=by
 split
 ·exact h
 ·exact h'
theorem Tt.pure {α:Type} (a:α):Tt (Pure.pure a:Px.Rd α) (Pure.pure a):=by
 intro u v b r h
 change Px.Res.ok a u=.ok b r at h
 cases h;rfl
theorem Tt.name:Tt Px.name Px.name:=by
 intro u v a r h
 cases u with
 | nil=>cases h
 | cons t u =>
  simp only[Px.name,List.cons_append] at *
  split at h
  ·rename_i hc;cases h;rw[if_pos hc]
  ·cases h
theorem Tt.number:Tt Px.number Px.number:=by
 intro u v a r h
 cases u with
 | nil=>cases h
 | cons t u =>
  simp only[Px.number,List.cons_append] at *
  split at h
  ·rename_i hc;cases h;rw[if_pos hc]
  ·cases h
theorem Tt.expect {ws:List Txt} (hne:ws.contains []=false):Tt (Px.expect ws) (Px.expect ws):=by
 intro u v a r h
 cases u with
 | nil =>
  unfold Px.expect at h
  rw[if_neg (by simp only[Px.word];rw[hne];decide)] at h
  cases h
 | cons t u =>
  by_cases hc:ws.contains t.text=true
  ·have e:Px.expect ws (t :: u)=.ok t.text u:=by unfold Px.expect;exact if_pos hc
   rw[e] at h;cases h
   unfold Px.expect;exact if_pos hc
  ·have e:Px.expect ws (t :: u)=.bad (t :: u):=by unfold Px.expect;exact if_neg hc
   rw[e] at h;cases h
theorem Strict.expect {ws:List Txt} (hne:ws.contains []=false):Strict (Px.expect ws):=fun _ _ _ h=>expect_len h hne
theorem Strict.number:Strict Px.number:=by
 intro ts a r h
 cases ts with
 | nil=>cases h
 | cons t r' =>
  simp only[Px.number] at h
  split at h
  ·cases h;simp
  ·cases h
theorem Strict.ite {α:Type} {c:Prop} [Decidable c] {p q:Px.Rd α} (h:Strict p) (h':Strict q):Strict (if c then p else q):=by
 split
 ·exact h
 ·exact h'
end Go.Proofs.YtghohohagbbajaaGreatDoor
