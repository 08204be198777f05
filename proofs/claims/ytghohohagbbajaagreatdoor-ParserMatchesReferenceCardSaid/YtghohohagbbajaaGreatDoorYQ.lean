/- part of the proof -/
import Derived.Test.YtghohohagbbajaaGreatDoorYO
import Derived.Test.YtghohohagbbajaaGreatDoorYA
import Derived.Test.YtghohohagbbajaaGreatDoorYBG
set_option linter.unusedVariables false
set_option linter.unusedSimpArgs false
set_option linter.unusedSectionVars false
namespace Go.Proofs.YtghohohagbbajaaGreatDoor
open Lx (Tk)
open Px (Txt TyE VarD DataD TraitD BoundD ImplD ArgD ExprD StmtD ArmD FuncD ModD)
def Px.Res.left {α:Type} : Px.Res α→List Tk
 | .ok _ r=>r
 | .bad r=>r
def Suf {α:Type} (p:Px.Rd α):Prop:=∀ ts,∃ u,ts=u ++ (p ts).left
structure LL {α:Type} (p q:Px.Rd α):Prop where
 loc:∀ u v,(∃ a s,s≠[]∧p u=.ok a s∧q (u ++ v)=.ok a (s ++ v))∨(∃ s,s≠[]∧p u=.bad s∧q (u ++ v)=.bad (s ++ v))∨((p u).left=[]∧(q (u ++ v)).left.length≤v.length)
 s1:Suf p
 s2:Suf q
theorem Suf.le {α:Type} {p:Px.Rd α} (h:Suf p) (ts:List Tk):(p ts).left.length≤ts.length:=by
 obtain⟨u,hu⟩:=h ts
 have:ts.length=u.length+(p ts).left.length:=by rw[← List.length_append,← hu]
 omega
theorem Suf.bind {α β:Type} {p:Px.Rd α} {f:α→Px.Rd β} (hp:Suf p) (hf:∀ a,Suf (f a)):Suf (p >>= f):=by
 intro ts
 obtain⟨u,hu⟩:=hp ts
 show ∃ u,ts=u ++ (Px.Rd.bind p f ts).left
 unfold Px.Rd.bind
 cases hq:p ts with
 | bad r=>rw[hq] at hu;exact⟨u,hu⟩
 | ok a r =>
  rw[hq] at hu
  obtain⟨u',hu'⟩:=hf a r
  exact⟨u ++ u',by simp only;rw[List.append_assoc,← hu'];exact hu⟩
theorem LL.bind {α β:Type} {p q:Px.Rd α} {f g:α→Px.Rd β} (hp:LL p q) (hf:∀ a,LL (f a) (g a)):LL (p >>= f) (q >>= g):=by
 refine⟨fun u v=>?_,hp.s1.bind fun a=>(hf a).s1,hp.s2.bind fun a=>(hf a).s2⟩
 show (∃ a s,s≠[]∧Px.Rd.bind p f u=.ok a s∧Px.Rd.bind q g (u ++ v)=.ok a (s ++ v))∨(∃ s,s≠[]∧Px.Rd.bind p f u=.bad s∧Px.Rd.bind q g (u ++ v)=.bad (s ++ v))∨((Px.Rd.bind p f u).left=[]∧(Px.Rd.bind q g (u ++ v)).left.length≤v.length)
 unfold Px.Rd.bind
 rcases hp.loc u v with ⟨a,s,hs,h1,h2⟩|⟨s,hs,h1,h2⟩|⟨h1,h2⟩
 ·rw[h1,h2]
  exact(hf a).loc s v
 ·rw[h1,h2]
  exact .inr (.inl ⟨s,hs,rfl,rfl⟩)
 ·refine .inr (.inr ⟨?_,?_⟩)
  ·cases hq:p u with
   | bad r=>rw[hq] at h1;exact h1
   | ok a r =>
    rw[hq] at h1
    have h1':r=[]:=h1
    subst h1'
    have:=(hf a).s1.le []
    exact List.length_eq_zero_iff.1 (by simpa using this)
  ·cases hq:q (u ++ v) with
   | bad r=>rw[hq] at h2;exact h2
   | ok a r =>
    rw[hq] at h2
    exact Nat.le_trans ((hf a).s2.le r) h2
theorem LL.ite {α:Type} {c:Prop} [Decidable c] {p q p' q':Px.Rd α} (h:LL p p') (h':LL q q'):LL (if c then p else q) (if c then p' else q'):=by
 split
 ·exact h
 ·exact h'
theorem LL.of {α:Type} {p:Px.Rd α} (hs:Suf p) (h:∀ t u v,(∃ a s,s≠[]∧p (t :: u)=.ok a s∧p (t :: u ++ v)=.ok a (s ++ v))∨(∃ s,s≠[]∧p (t :: u)=.bad s∧p (t :: u ++ v)=.bad (s ++ v))∨((p (t :: u)).left=[]∧(p (t :: u ++ v)).left.length≤v.length)):LL p p:=by
 refine⟨fun u v=>?_,hs,hs⟩
 cases u with
 | cons t u=>exact h t u v
 | nil=>exact .inr (.inr ⟨List.length_eq_zero_iff.1 (by simpa using hs.le []),by simpa using hs.le v⟩)
theorem LL.pure {α:Type} (a:α):LL (Pure.pure a:Px.Rd α) (Pure.pure a) :=
 LL.of (fun ts=>⟨[],rfl⟩) fun t u v=>.inl ⟨a,t :: u,by simp,rfl,rfl⟩
theorem LL.refuse {α:Type} : LL (Px.refuse:Px.Rd α) Px.refuse :=
 LL.of (fun ts=>⟨[],rfl⟩) fun t u v=>.inr (.inl ⟨t :: u,by simp,rfl,rfl⟩)
theorem LL.word:LL Px.wordR Px.wordR :=
 LL.of (fun ts=>⟨[],rfl⟩) fun t u v=>.inl ⟨t.text,t :: u,by simp,rfl,rfl⟩
theorem LL.num:LL Px.numR Px.numR :=
 LL.of (fun ts=>⟨[],by cases ts <;> rfl⟩) fun t u v=>.inl ⟨_,t :: u,by simp,rfl,rfl⟩
theorem LL.done:LL Px.doneR Px.doneR :=
 LL.of (fun ts=>⟨[],rfl⟩) fun t u v=>.inl ⟨_,t :: u,by simp,rfl,rfl⟩
theorem suf_offset (sz:Nat):Suf (Px.offsetR sz):=fun ts=>⟨[],by cases ts <;> rfl⟩
theorem LL.offset (sz sz':Nat):LL (Px.offsetR sz) (Px.offsetR sz'):=by
 refine⟨fun u v=>?_,suf_offset sz,suf_offset sz'⟩
 cases u with
 | cons t u=>exact .inl ⟨t.off,t :: u,by simp,rfl,rfl⟩
 | nil=>exact .inr (.inr ⟨rfl,by simpa using (suf_offset sz').le v⟩)
theorem suf_tail (ts:List Tk):∃ u,ts=u ++ ts.tail:=by
 cases ts with
 | nil=>exact⟨[],rfl⟩
 | cons t u=>exact⟨[t],rfl⟩
theorem loc_tail {α:Type} {p:Px.Rd α} {a:α} {t:Tk} {u v:List Tk} (h:p (t :: u)=.ok a u) (h':p (t :: u ++ v)=.ok a (u ++ v)) :
  (∃ a s,s≠[]∧p (t :: u)=.ok a s∧p (t :: u ++ v)=.ok a (s ++ v))∨(∃ s,s≠[]∧p (t :: u)=.bad s∧p (t :: u ++ v)=.bad (s ++ v))∨((p (t :: u)).left=[]∧(p (t :: u ++ v)).left.length≤v.length):=by
 cases u with
 | nil=>rw[h,h'];exact .inr (.inr ⟨rfl,Nat.le_refl _⟩)
 | cons t' u=>exact .inl ⟨a,t' :: u,by simp,h,h'⟩
theorem LL.take:LL Px.take Px.take:=LL.of suf_tail fun _ _ _=>loc_tail rfl rfl
theorem LL.accept (ws:List Txt):LL (Px.accept ws) (Px.accept ws):=by
 refine LL.of (fun ts=>?_) fun t u v=>?_
 ·simp only[Px.accept]
  split
  ·exact suf_tail ts
  ·exact⟨[],rfl⟩
 ·by_cases h:ws.contains t.text=true
  ·exact loc_tail (a:=true) (by unfold Px.accept;exact if_pos h) (by unfold Px.accept;exact if_pos h)
  ·exact .inl ⟨false,t :: u,by simp,by unfold Px.accept;exact if_neg h,by unfold Px.accept;exact if_neg h⟩
theorem LL.expect (ws:List Txt):LL (Px.expect ws) (Px.expect ws):=by
 refine LL.of (fun ts=>?_) fun t u v=>?_
 ·simp only[Px.expect]
  split
  ·exact suf_tail ts
  ·exact⟨[],rfl⟩
 ·by_cases h:ws.contains t.text=true
  ·exact loc_tail (a:=t.text) (by unfold Px.expect;exact if_pos h) (by unfold Px.expect;exact if_pos h)
  ·exact .inr (.inl ⟨t :: u,by simp,by unfold Px.expect;exact if_neg h,by unfold Px.expect;exact if_neg h⟩)
theorem LL.name:LL Px.name Px.name:=by
 refine LL.of (fun ts=>?_) fun t u v=>?_
 ·cases ts with
  | nil=>exact⟨[],rfl⟩
  | cons t u =>
   simp only[Px.name]
   split
   ·exact⟨[t],rfl⟩
   ·exact⟨[],rfl⟩
 ·by_cases h:t.kind=1∧Px.keyB t.text=false
  ·exact loc_tail (a:=t.text) (by simp only[Px.name];rw[if_pos h]) (by simp only[Px.name,List.cons_append];rw[if_pos h])
  ·exact .inr (.inl ⟨t :: u,by simp,by simp only[Px.name];rw[if_neg h],by simp only[Px.name,List.cons_append];rw[if_neg h]⟩)
theorem LL.number:LL Px.number Px.number:=by
 refine LL.of (fun ts=>?_) fun t u v=>?_
 ·cases ts with
  | nil=>exact⟨[],rfl⟩
  | cons t u =>
   simp only[Px.number]
   split
   ·exact⟨[t],rfl⟩
   ·exact⟨[],rfl⟩
 ·by_cases h:t.kind=2
  ·exact loc_tail (a:=t.num) (by simp only[Px.number];rw[if_pos h]) (by simp only[Px.number,List.cons_append];rw[if_pos h])
  ·exact .inr (.inl ⟨t :: u,by simp,by simp only[Px.number];rw[if_neg h],by simp only[Px.number,List.cons_append];rw[if_neg h]⟩)
theorem Suf.shr {α:Type} {p:Px.Rd α} (h:Suf p):Shr p:=by
 intro ts
 have:=h.le ts
 cases hq:p ts with
 | ok a r=>rw[hq] at this;exact this
 | bad r=>rw[hq] at this;exact this
theorem listT_fuel {α:Type} {read:Px.Rd α} (hs:Shr read):∀ (n n':Nat) (acc:List α) (ts:List Tk),ts.length<n→ts.length<n'→Px.listT read n acc ts=Px.listT read n' acc ts
 | 0,_,_,_,h,_=>by omega
 | _,0,_,_,_,h=>by omega
 | n+1,n'+1,acc,ts,h,h'=>by
  by_cases hc:([[44]]:List Txt).contains (Px.word ts)=true
  ·have ha:Px.accept [[44]] ts=.ok true ts.tail:=by simp only[Px.accept];rw[if_pos hc]
   have hl:=accept_pos ha rfl
   cases hr:read ts.tail with
   | ok a r =>
    rw[listT_ok ha hr,listT_ok ha hr]
    have:=hs.ok hr
    exact listT_fuel hs n n' _ r (by omega) (by omega)
   | bad r=>rw[listT_bad ha hr,listT_bad ha hr]
  ·have ha:Px.accept [[44]] ts=.ok false ts:=by simp only[Px.accept];rw[if_neg hc]
   rw[listT_no ha,listT_no ha]
theorem untilT_fuel {α:Type} {read:Px.Rd α} (hs:Strict read):∀ (n n':Nat) (acc:List α) (ts:List Tk),ts.length<n→ts.length<n'→Px.untilT read n acc ts=Px.untilT read n' acc ts
 | 0,_,_,_,h,_=>by omega
 | _,0,_,_,_,h=>by omega
 | n+1,n'+1,acc,ts,h,h'=>by
  by_cases hc:([[125]]:List Txt).contains (Px.word ts)=true
  ·have ha:Px.accept [[125]] ts=.ok true ts.tail:=by simp only[Px.accept];rw[if_pos hc]
   rw[untilT_no ha,untilT_no ha]
  ·have ha:Px.accept [[125]] ts=.ok false ts:=by simp only[Px.accept];rw[if_neg hc]
   cases hr:read ts with
   | ok a r =>
    rw[untilT_ok ha hr,untilT_ok ha hr]
    have:=hs _ _ _ hr
    exact untilT_fuel hs n n' _ r (by omega) (by omega)
   | bad r=>rw[untilT_bad ha hr,untilT_bad ha hr]
theorem list_fuel {α:Type} {read:Px.Rd α} (hs:Shr read) (n:Nat) (ts:List Tk) (h:ts.length<n):Px.list read ts=(read >>= fun a=>Px.listT read n [a]) ts:=by
 show Px.Rd.bind read (fun a=>Px.listT read (ts.length+1) [a]) ts=Px.Rd.bind read (fun a=>Px.listT read n [a]) ts
 unfold Px.Rd.bind
 cases hr:read ts with
 | ok a r =>
  have:=hs.ok hr
  exact listT_fuel hs _ _ _ r (by omega) (by omega)
 | bad r=>rfl
theorem until_fuel {α:Type} {read:Px.Rd α} (hs:Strict read) (n:Nat) (ts:List Tk) (h:ts.length<n):Px.untilBrace read ts=Px.untilT read n [] ts :=
 untilT_fuel hs _ _ _ ts (by omega) h
theorem LL.listT {α:Type} {p q:Px.Rd α} (h:LL p q):∀ (n:Nat) (acc:List α),LL (Px.listT p n acc) (Px.listT q n acc)
 | 0,_=>LL.refuse
 | n+1,acc=>LL.bind (LL.accept _) fun _=>LL.ite (LL.bind h fun _=>LL.listT h n _) (LL.pure _)
theorem LL.untilT {α:Type} {p q:Px.Rd α} (h:LL p q):∀ (n:Nat) (acc:List α),LL (Px.untilT p n acc) (Px.untilT q n acc)
 | 0,_=>LL.refuse
 | n+1,acc=>LL.bind (LL.accept _) fun _=>LL.ite (LL.pure _) (LL.bind h fun _=>LL.untilT h n _)
theorem LL.list {α:Type} {p q:Px.Rd α} (h:LL p q):LL (Px.list p) (Px.list q):=by
 have key:=fun n=>LL.bind h fun a=>LL.listT h n [a]
 refine⟨fun u v=>?_,fun ts=>?_,fun ts=>?_⟩
 ·rw[list_fuel h.s1.shr ((u ++ v).length+1) u (by simp;omega),list_fuel h.s2.shr ((u ++ v).length+1) (u ++ v) (by omega)]
  exact(key _).loc u v
 ·rw[list_fuel h.s1.shr (ts.length+1) ts (by omega)];exact(key _).s1 ts
 ·rw[list_fuel h.s2.shr (ts.length+1) ts (by omega)];exact(key _).s2 ts
theorem LL.until {α:Type} {p q:Px.Rd α} (h:LL p q) (h1:Strict p) (h2:Strict q):LL (Px.untilBrace p) (Px.untilBrace q):=by
 have key:=fun n=>LL.untilT h n []
 refine⟨fun u v=>?_,fun ts=>?_,fun ts=>?_⟩
 ·rw[until_fuel h1 ((u ++ v).length+1) u (by simp;omega),until_fuel h2 ((u ++ v).length+1) (u ++ v) (by omega)]
  exact(key _).loc u v
 ·rw[until_fuel h1 (ts.length+1) ts (by omega)];exact(key _).s1 ts
 ·rw[until_fuel h2 (ts.length+1) ts (by omega)];exact(key _).s2 ts
theorem LL.opt {α:Type} {p q:Px.Rd α} (h:LL p q) (o cl:Txt):LL (Px.optionalList o p cl) (Px.optionalList o q cl) :=
 LL.bind (LL.accept _) fun _=>LL.ite (LL.bind (LL.list h) fun _=>LL.bind (LL.expect _) fun _=>LL.pure _) (LL.pure _)
theorem LL.pos {α:Type} {p q:Px.Rd α} (h:LL p q) (o cl:Txt):LL (Px.possiblyEmptyList o p cl) (Px.possiblyEmptyList o q cl) :=
 LL.bind (LL.expect _) fun _=>LL.bind (LL.accept _) fun _=>LL.ite (LL.pure _) (LL.bind (LL.list h) fun _=>LL.bind (LL.expect _) fun _=>LL.pure _)
end Go.Proofs.YtghohohagbbajaaGreatDoor
