/- part of the proof -/
import Derived.Test.YtghohohagbbajaaGreatDoorYQ
set_option linter.unusedVariables false
set_option linter.unusedSimpArgs false
set_option linter.unusedSectionVars false
namespace Go.Proofs.YtghohohagbbajaaGreatDoor
open Lx (Tk)
open Px (Txt TyE VarD DataD TraitD BoundD ImplD ArgD ExprD StmtD ArmD FuncD ModD)
mutual
def eT:TyE→TyE
 | .mk x a _=>.mk x (eTs a) 0
def eTs:List TyE→List TyE
 | []=>[]
 | t :: r=>eT t :: eTs r
end
def eB (b:BoundD):BoundD:=⟨b.param,b.trait,0⟩
def eA (a:ArgD):ArgD:=⟨a.name,eT a.type,a.capture,0⟩
def eE (e:ExprD):ExprD:=⟨e.kind,e.op,e.name,e.variant,e.names,e.num,e.type.map eT,0⟩
mutual
def eS:StmtD→StmtD
 | .mk k x l t e th el ar fn _=>.mk k x l (t.map eT) (eE e) (eSs th) (eSs el) (eMs ar) (eFs fn) 0
def eSs:List StmtD→List StmtD
 | []=>[]
 | s :: r=>eS s :: eSs r
def eM:ArmD→ArmD
 | .mk x l b _=>.mk x l (eSs b) 0
def eMs:List ArmD→List ArmD
 | []=>[]
 | s :: r=>eM s :: eMs r
def eF:FuncD→FuncD
 | .mk x p bs c a t b _=>.mk x p (bs.map eB) (c.map eA) (a.map eA) (eT t) (eSs b) 0
def eFs:List FuncD→List FuncD
 | []=>[]
 | s :: r=>eF s :: eFs r
end
def Sim:List Tk→List Tk→Prop
 | [],[]=>True
 | a :: r,b :: s=>a.kind=b.kind∧a.text=b.text∧a.num=b.num∧Sim r s
 | _,_=>False
theorem Sim.len:∀ {u v:List Tk},Sim u v→u.length=v.length
 | [],[],_=>rfl
 | a :: r,b :: s,h=>by simp[h.2.2.2.len]
 | [],_ :: _,h=>h.elim
 | _ :: _,[],h=>h.elim
theorem Sim.word {u v:List Tk} (h:Sim u v):Px.word u=Px.word v:=by
 cases u <;> cases v
 ·rfl
 ·exact h.elim
 ·exact h.elim
 ·exact h.2.1
theorem Sim.tail {u v:List Tk} (h:Sim u v):Sim u.tail v.tail:=by
 cases u <;> cases v
 ·exact h
 ·exact h.elim
 ·exact h.elim
 ·exact h.2.2.2
def NN {α β:Type} (R:α→β→Prop) (p:Px.Rd α) (q:Px.Rd β):Prop:=∀ u v,Sim u v →
 match p u,q v with
 | .ok a r,.ok b s=>R a b∧Sim r s
 | .bad r,.bad s=>Sim r s
 | _,_=>False
theorem NN.bind {α α' β β':Type} {R:α→α'→Prop} {S:β→β'→Prop} {p:Px.Rd α} {q:Px.Rd α'} {f:α→Px.Rd β} {g:α'→Px.Rd β'} (hp:NN R p q) (hf:∀ a b,R a b→NN S (f a) (g b)):NN S (p >>= f) (q >>= g):=by
 intro u v h
 have h1:=hp u v h
 change (match Px.Rd.bind p f u,Px.Rd.bind q g v with
  | .ok a r,.ok b s=>S a b∧Sim r s
  | .bad r,.bad s=>Sim r s
  | _,_=>False)
 unfold Px.Rd.bind
 cases hq:p u with
 | ok a r =>
  cases hq':q v with
  | ok b s =>
   rw[hq,hq'] at h1
   exact hf a b h1.1 r s h1.2
  | bad s=>rw[hq,hq'] at h1;exact h1.elim
 | bad r =>
  cases hq':q v with
  | ok b s=>rw[hq,hq'] at h1;exact h1.elim
  | bad s=>rw[hq,hq'] at h1;exact h1
theorem NN.pure {α β:Type} {R:α→β→Prop} {a:α} {b:β} (h:R a b):NN R (Pure.pure a:Px.Rd α) (Pure.pure b):=fun _ _ hs=>⟨h,hs⟩
theorem NN.refuse {α β:Type} {R:α→β→Prop} : NN R (Px.refuse:Px.Rd α) (Px.refuse:Px.Rd β):=fun _ _ hs=>hs
theorem NN.ite {α β:Type} {R:α→β→Prop} {c:Prop} [Decidable c] {p p':Px.Rd α} {q q':Px.Rd β} (h:NN R p q) (h':NN R p' q'):NN R (if c then p else p') (if c then q else q'):=by
 split
 ·exact h
 ·exact h'
def Like {α:Type} (e:α→α):α→α→Prop:=fun a b=>e a=e b
theorem NN.of {α β:Type} {R S:α→β→Prop} {p:Px.Rd α} {q:Px.Rd β} (h:NN R p q) (hr:∀ a b,R a b→S a b):NN S p q:=by
 intro u v hs
 have:=h u v hs
 cases hp:p u <;> cases hq:q v <;> rw[hp,hq] at this <;> simp only at this ⊢
 ·exact⟨hr _ _ this.1,this.2⟩
 ·exact this
section
variable {α:Type} {e:α→α} {p q:Px.Rd α} (h:NN (Like e) p q)
include h
end
variable (a b n:Nat)
section
variable {p q:Px.Rd StmtD} (h:NN (Like eS) p q) (o o':Nat)
include h
end
end Go.Proofs.YtghohohagbbajaaGreatDoor
namespace Go.Proofs.YtghohohagbbajaaGreatDoor
open Px (Txt TyE VarD DataD TraitD BoundD ImplD ArgD ExprD StmtD ArmD FuncD ModD)
abbrev Fact:=Txt × Int
def nF (n:Int):List Fact:=[([],n)]
def tF (l:List Txt):List Fact:=nF l.length ++ l.map (fun t=>(t,0))
def oF (off:Bool) (n:Nat):List Fact:=if off then nF n else []
theorem oF_no (n:Nat):oF false n=[]:=rfl
mutual
def fT (off:Bool):TyE→List Fact
 | .mk x a o=>tF [x] ++ (oF off o ++ (nF a.length ++ fTs off a))
def fTs (off:Bool):List TyE→List Fact
 | []=>[]
 | t :: r=>fT off t ++ fTs off r
end
def typesF (off:Bool) (l:List TyE):List Fact:=nF l.length ++ fTs off l
def fBs (off:Bool):List BoundD→List Fact
 | []=>[]
 | b :: r=>tF [b.param,b.trait] ++ (oF off b.off ++ fBs off r)
def boundsF (off:Bool) (l:List BoundD):List Fact:=nF l.length ++ fBs off l
def fAs (off:Bool):List ArgD→List Fact
 | []=>[]
 | a :: r=>tF [a.name] ++ (typesF off [a.type] ++ (nF a.capture ++ (oF off a.off ++ fAs off r)))
def argsF (off:Bool) (l:List ArgD):List Fact:=nF l.length ++ fAs off l
mutual
def fS (off:Bool):StmtD→List Fact
 | .mk k x l t e th el ar fn o=>nF k ++ (nF e.kind ++ (nF e.num ++ (tF [x,e.op,e.name,e.variant] ++ (tF l ++ (tF e.names ++ (typesF off t ++ (typesF off e.type ++
  (nF th.length ++ (fSs off th ++ (nF el.length ++ (fSs off el ++ (nF ar.length ++ (fMs off ar ++ (nF fn.length ++ (fFs off fn ++ (oF off o ++ oF off e.off))))))))))))))))
def fSs (off:Bool):List StmtD→List Fact
 | []=>[]
 | s :: r=>fS off s ++ fSs off r
def fM (off:Bool):ArmD→List Fact
 | .mk x l b o=>tF [x] ++ (tF l ++ (nF b.length ++ (fSs off b ++ oF off o)))
def fMs (off:Bool):List ArmD→List Fact
 | []=>[]
 | s :: r=>fM off s ++ fMs off r
def fF (off:Bool):FuncD→List Fact
 | .mk x p bs c a t b o=>tF [x] ++ (tF p ++ (boundsF off bs ++ (argsF off c ++ (argsF off a ++ (typesF off [t] ++ (nF b.length ++ (fSs off b ++ oF off o)))))))
def fFs (off:Bool):List FuncD→List Fact
 | []=>[]
 | s :: r=>fF off s ++ fFs off r
end
def fVs (off:Bool):List VarD→List Fact
 | []=>[]
 | v :: r=>tF [v.name] ++ (typesF off v.fields ++ (oF off v.off ++ fVs off r))
def fDs (off:Bool):List DataD→List Fact
 | []=>[]
 | d :: r=>tF [d.name] ++ (tF d.params ++ (nF d.drop ++ (nF d.variants.length ++ (fVs off d.variants ++ (oF off d.off ++ fDs off r)))))
def fRs (off:Bool):List TraitD→List Fact
 | []=>[]
 | d :: r=>tF [d.name] ++ (oF off d.off ++ fRs off r)
def fIs (off:Bool):List ImplD→List Fact
 | []=>[]
 | d :: r=>tF [d.trait,d.func] ++ (tF d.params ++ (boundsF off d.bounds ++ (typesF off [d.type] ++ (oF off d.off ++ fIs off r))))
def factsM (off:Bool) (m:ModD):List Fact :=
 tF [m.name] ++ (tF m.uses ++ (nF m.datas.length ++ (fDs off m.datas ++ (nF m.traits.length ++ (fRs off m.traits ++ (nF m.impls.length ++ (fIs off m.impls ++ (nF m.funcs.length ++ fFs off m.funcs))))))))
end Go.Proofs.YtghohohagbbajaaGreatDoor
