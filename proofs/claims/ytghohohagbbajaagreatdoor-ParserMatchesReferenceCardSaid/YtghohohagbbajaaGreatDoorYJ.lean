/- part of the proof -/
import Derived.Test.YtghohohagbbajaaGreatDoorYA
set_option linter.unusedVariables false
set_option linter.unusedSimpArgs false
set_option linter.unusedSectionVars false
namespace Go.Proofs.YtghohohagbbajaaGreatDoor.Px
open Lx (Tk)
abbrev Txt:=List UInt8
inductive Res (α:Type) where
 | ok (a:α) (ts:List Tk)
 | bad (ts:List Tk)
def Rd (α:Type):=List Tk→Res α
def Rd.pure {α:Type} (a:α):Rd α:=fun ts=>.ok a ts
def Rd.bind {α β:Type} (p:Rd α) (f:α→Rd β):Rd β:=fun ts =>
 match p ts with
 | .ok a r=>f a r
 | .bad r=>.bad r
instance:Monad Rd where
 pure:=Rd.pure
 bind:=Rd.bind
def word:List Tk→Txt
 | []=>[]
 | t :: _=>t.text
def offsetR (sz:Nat):Rd Nat:=fun ts=>match ts with
 | []=>.ok sz []
 | t :: r=>.ok t.off (t :: r)
def wordR:Rd Txt:=fun ts=>.ok (word ts) ts
def numR:Rd Bool:=fun ts=>match ts with
 | []=>.ok false []
 | t :: r=>.ok (t.kind == 2) (t :: r)
def doneR:Rd Bool:=fun ts=>.ok ts.isEmpty ts
def take:Rd Unit:=fun ts=>.ok () ts.tail
def accept (ws:List Txt):Rd Bool:=fun ts=>if ws.contains (word ts) then .ok true ts.tail else .ok false ts
def expect (ws:List Txt):Rd Txt:=fun ts=>if ws.contains (word ts) then .ok (word ts) ts.tail else .bad ts
def refuse {α:Type} : Rd α:=fun ts=>.bad ts
def keys:List Txt:=[[109,111,100,117,108,101],[117,115,101],[100,97,116,97],[116,114,97,105,116],[105,109,112,108],[102,111,114],[119,104,101,114,101],[102,110],[108,101,116],[105,102],[101,108,115,101],[119,104,105,108,101],[109,97,116,99,104],[114,101,116,117,114,110],[112,97,110,105,99],[100,114,111,112],[112,114,105,110,116],[115,101,110,100],[115,112,97,119,110],[110,101,119],[98,111,120],[117,110,98,111,120],[105,110],[97,114,101,110,97],[97,108,108,111,99],[99,104,97,110],[114,101,99,118],[109,111,118,101],[73,110,116],[65,114,101,110,97],[66,111,120],[67,104,97,110]]
def keyB (t:Txt):Bool:=keys.contains t
def name:Rd Txt:=fun ts=>match ts with
 | []=>.bad []
 | t :: r=>if t.kind=1∧keyB t.text=false then .ok t.text r else .bad (t :: r)
def number:Rd Nat:=fun ts=>match ts with
 | []=>.bad []
 | t :: r=>if t.kind=2 then .ok t.num r else .bad (t :: r)
def listT {α:Type} (read:Rd α):Nat→List α→Rd (List α)
 | 0,_=>refuse
 | n+1,acc=>do
  if ← accept [[44]] then
   let a ← read
   listT read n (acc ++ [a])
  else pure acc
def list {α:Type} (read:Rd α):Rd (List α):=fun ts=>Rd.bind read (fun a=>listT read (ts.length+1) [a]) ts
def optionalList {α:Type} (o:Txt) (read:Rd α) (c:Txt):Rd (List α):=do
 if ← accept [o] then
  let l ← list read
  let _ ← expect [c]
  pure l
 else pure []
def possiblyEmptyList {α:Type} (o:Txt) (read:Rd α) (c:Txt):Rd (List α):=do
 let _ ← expect [o]
 if ← accept [c] then pure []
 else
  let l ← list read
  let _ ← expect [c]
  pure l
def untilT {α:Type} (read:Rd α):Nat→List α→Rd (List α)
 | 0,_=>refuse
 | n+1,acc=>do
  if ← accept [[125]] then pure acc
  else
   let a ← read
   untilT read n (acc ++ [a])
def untilBrace {α:Type} (read:Rd α):Rd (List α):=fun ts=>untilT read (ts.length+1) [] ts
inductive TyE where
 | mk (name:Txt) (args:List TyE) (off:Nat)
structure VarD where
 name:Txt
 fields:List TyE
 off:Nat
structure DataD where
 name:Txt
 params:List Txt
 variants:List VarD
 drop:Int
 off:Nat
structure TraitD where
 name:Txt
 off:Nat
structure BoundD where
 param:Txt
 trait:Txt
 off:Nat
structure ImplD where
 trait:Txt
 params:List Txt
 bounds:List BoundD
 type:TyE
 func:Txt
 off:Nat
structure ArgD where
 name:Txt
 type:TyE
 capture:Nat
 off:Nat
structure ExprD where
 kind:Nat
 op:Txt
 name:Txt
 variant:Txt
 names:List Txt
 num:Int
 type:List TyE
 off:Nat
mutual
inductive StmtD where
 | mk (kind:Nat) (name:Txt) (names:List Txt) (type:List TyE) (expr:ExprD) (th:List StmtD) (el:List StmtD) (arms:List ArmD) (func:List FuncD) (off:Nat)
inductive ArmD where
 | mk (variant:Txt) (names:List Txt) (body:List StmtD) (off:Nat)
inductive FuncD where
 | mk (name:Txt) (params:List Txt) (bounds:List BoundD) (captures:List ArgD) (args:List ArgD) (result:TyE) (body:List StmtD) (off:Nat)
end
structure ModD where
 name:Txt
 uses:List Txt
 datas:List DataD
 traits:List TraitD
 impls:List ImplD
 funcs:List FuncD
def expr0:ExprD:=⟨0,[],[],[],[],0,[],0⟩
def typeF (sz:Nat):Nat→Rd TyE
 | 0=>refuse
 | n+1=>do
  let w ← wordR
  let o ← offsetR sz
  if ← accept [[73,110,116],[65,114,101,110,97]] then pure (.mk w [] o)
  else if ← accept [[66,111,120],[67,104,97,110]] then
   let _ ← expect [[60]]
   let t ← typeF sz n
   let _ ← expect [[62]]
   pure (.mk w [t] o)
  else if ← accept [[38],[38,33]] then
   let t ← typeF sz n
   pure (.mk w [t] o)
  else
   let x ← name
   let a ← optionalList [60] (typeF sz n) [62]
   pure (.mk x a o)
variable (sz n:Nat)
def params:Rd (List Txt):=optionalList [60] name [62]
def bound:Rd BoundD:=do
 let o ← offsetR sz
 let p ← name
 let _ ← expect [[58]]
 let t ← name
 pure ⟨p,t,o⟩
def bounds:Rd (List BoundD):=do
 if ← accept [[119,104,101,114,101]] then list (bound sz) else pure []
def variant:Rd VarD:=do
 let o ← offsetR sz
 let x ← name
 let f ← optionalList [40] (typeF sz n) [41]
 pure ⟨x,f,o⟩
def dropAction:Rd Int:=do
 if ← accept [[112,97,110,105,99]] then pure (-1)
 else
  let k ← number
  pure (k:Int)
def data (off:Nat):Rd DataD:=do
 let x ← name
 let p ← params
 let _ ← expect [[123]]
 let v ← list (variant sz n)
 let _ ← expect [[125]]
 if ← accept [[100,114,111,112]] then
  let d ← dropAction
  let _ ← expect [[59]]
  pure ⟨x,p,v,d,off⟩
 else
  let _ ← expect [[59]]
  pure ⟨x,p,v,0,off⟩
def trait (off:Nat):Rd TraitD:=do
 let x ← name
 let _ ← expect [[59]]
 pure ⟨x,off⟩
def implementation (off:Nat):Rd ImplD:=do
 let p ← params
 let t ← name
 let _ ← expect [[102,111,114]]
 let ty ← typeF sz n
 let b ← bounds sz
 let _ ← expect [[61]]
 let f ← name
 let _ ← expect [[59]]
 pure ⟨t,p,b,ty,f,off⟩
def arg:Rd ArgD:=do
 let o ← offsetR sz
 let x ← name
 let _ ← expect [[58]]
 let t ← typeF sz n
 pure ⟨x,t,0,o⟩
def captureKind:Rd Nat:=do
 let w ← expect [[109,111,118,101],[38],[38,33]]
 if w=[38] then pure 1 else if w=[38,33] then pure 2 else pure 0
def capture:Rd ArgD:=do
 let o ← offsetR sz
 let k ← captureKind
 let a ← arg sz n
 pure ⟨a.name,a.type,k,o⟩
def signature:Rd (List ArgD × TyE):=do
 let a ← possiblyEmptyList [40] (arg sz n) [41]
 let _ ← expect [[45,62]]
 let t ← typeF sz n
 pure (a,t)
def operands:Nat→Rd (List Txt)
 | 0=>pure []
 | k+1=>do
  let l ← operands k
  let x ← name
  pure (l ++ [x])
def operation (kind k:Nat):Rd ExprD:=do
 let l ← operands k
 pure { expr0 with kind:=kind,names:=l }
def reference (plain behind inside:Nat):Rd ExprD:=do
 if ← accept [[42]] then operation behind 1
 else if ← accept [[105,110]] then operation inside 1
 else operation plain 1
def newValue:Rd ExprD:=do
 let x ← name
 let _ ← expect [[46]]
 let v ← name
 let l ← optionalList [40] name [41]
 pure { expr0 with kind:=4,name:=x,variant:=v,names:=l }
def afterName (x:Txt):Rd ExprD:=do
 let w ← wordR
 if ← accept [[43],[45],[42],[60],[61,61]] then
  let y ← name
  pure { expr0 with kind:=3,op:=w,names:=[x,y] }
 else if ← accept [[46]] then
  let k ← number
  pure { expr0 with kind:=13,names:=[x],num:=k }
 else if w=[40] then
  let l ← possiblyEmptyList [40] name [41]
  pure { expr0 with kind:=15,name:=x,names:=l }
 else if ← accept [[58,58]] then
  let y ← name
  pure { expr0 with kind:=16,name:=x,names:=[y] }
 else pure { expr0 with kind:=2,names:=[x] }
def unplaced:Rd ExprD:=do
 if ← numR then
  let k ← number
  pure { expr0 with kind:=1,num:=k }
 else if ← accept [[45]] then
  let k ← number
  pure { expr0 with kind:=1,num:=-(k:Int) }
 else if ← accept [[110,101,119]] then newValue
 else if ← accept [[98,111,120]] then operation 5 1
 else if ← accept [[117,110,98,111,120]] then operation 6 1
 else if ← accept [[38]] then reference 7 9 11
 else if ← accept [[38,33]] then reference 8 10 12
 else if ← accept [[42]] then operation 14 1
 else if ← accept [[97,114,101,110,97]] then operation 17 0
 else if ← accept [[97,108,108,111,99]] then operation 18 2
 else if ← accept [[99,104,97,110]] then
  let t ← typeF sz n
  pure { expr0 with kind:=19,type:=[t] }
 else if ← accept [[114,101,99,118]] then operation 20 1
 else
  let x ← name
  afterName x
def expr:Rd ExprD:=do
 let o ← offsetR sz
 let e ← unplaced sz n
 pure { e with off:=o }
def forms:List (Txt × Nat):=[([108,101,116],1),([42],3),([105,102],4),([119,104,105,108,101],5),([109,97,116,99,104],6),([114,101,116,117,114,110],7),([112,97,110,105,99],8),([100,114,111,112],9),([112,114,105,110,116],10),([115,101,110,100],11),([115,112,97,119,110],12),([102,110],13)]
def formOf (t:Txt):Nat:=(forms.lookup t).getD 2
def letS (o:Nat):Rd StmtD:=do
 let x ← name
 if ← accept [[58]] then
  let t ← typeF sz n
  let _ ← expect [[61]]
  let e ← expr sz n
  let _ ← expect [[59]]
  pure (.mk 1 x [] [t] e [] [] [] [] o)
 else
  let _ ← expect [[61]]
  let e ← expr sz n
  let _ ← expect [[59]]
  pure (.mk 1 x [] [] e [] [] [] [] o)
def setS (o:Nat):Rd StmtD:=do
 let x ← name
 let _ ← expect [[61]]
 let e ← expr sz n
 let _ ← expect [[59]]
 pure (.mk 2 x [] [] e [] [] [] [] o)
def storeS (o:Nat):Rd StmtD:=do
 let x ← name
 let _ ← expect [[61]]
 let y ← name
 let _ ← expect [[59]]
 pure (.mk 3 x [y] [] expr0 [] [] [] [] o)
def namedS (k o:Nat):Rd StmtD:=do
 let x ← name
 let _ ← expect [[59]]
 pure (.mk k x [] [] expr0 [] [] [] [] o)
def bareS (o:Nat):Rd StmtD:=do
 let _ ← expect [[59]]
 pure (.mk 8 [] [] [] expr0 [] [] [] [] o)
def sendS (o:Nat):Rd StmtD:=do
 let x ← name
 let y ← name
 let _ ← expect [[59]]
 pure (.mk 11 x [y] [] expr0 [] [] [] [] o)
def spawnS (o:Nat):Rd StmtD:=do
 let x ← name
 let l ← possiblyEmptyList [40] name [41]
 let _ ← expect [[59]]
 pure (.mk 12 x l [] expr0 [] [] [] [] o)
def block (stmt:Rd StmtD):Rd (List StmtD):=do
 let _ ← expect [[123]]
 untilBrace stmt
def choiceS (stmt:Rd StmtD) (o:Nat):Rd StmtD:=do
 let x ← name
 let b ← block stmt
 if ← accept [[101,108,115,101]] then
  let e ← block stmt
  pure (.mk 4 x [] [] expr0 b e [] [] o)
 else pure (.mk 4 x [] [] expr0 b [] [] [] o)
def loopS (stmt:Rd StmtD) (o:Nat):Rd StmtD:=do
 let x ← name
 let b ← block stmt
 pure (.mk 5 x [] [] expr0 b [] [] [] o)
def arm (stmt:Rd StmtD):Rd ArmD:=do
 let o ← offsetR sz
 let x ← name
 let l ← optionalList [40] name [41]
 let b ← block stmt
 pure (.mk x l b o)
def matchS (stmt:Rd StmtD) (o:Nat):Rd StmtD:=do
 let x ← name
 let _ ← expect [[123]]
 let a ← arm sz stmt
 let l ← untilBrace (arm sz stmt)
 pure (.mk 6 x [] [] expr0 [] [] (a :: l) [] o)
def localFunction (stmt:Rd StmtD) (o:Nat):Rd FuncD:=do
 let x ← name
 let c ← possiblyEmptyList [91] (capture sz n) [93]
 let s ← signature sz n
 let b ← block stmt
 pure (.mk x [] [] c s.1 s.2 b o)
def localS (stmt:Rd StmtD) (o:Nat):Rd StmtD:=do
 let f ← localFunction sz n stmt o
 pure (.mk 13 [] [] [] expr0 [] [] [] [f] o)
def afterForm (stmt:Rd StmtD) (k o:Nat):Rd StmtD :=
 if k=1 then letS sz n o
 else if k=3 then storeS o
 else if k=4 then choiceS stmt o
 else if k=5 then loopS stmt o
 else if k=6 then matchS sz stmt o
 else if k=8 then bareS o
 else if k=11 then sendS o
 else if k=12 then spawnS o
 else if k=13 then localS sz n stmt o
 else namedS k o
def stmtF:Nat→Rd StmtD
 | 0=>refuse
 | m+1=>do
  let o ← offsetR sz
  let w ← wordR
  if formOf w=2 then setS sz n o
  else
   take
   afterForm sz n (stmtF m) (formOf w) o
def function (off:Nat):Rd FuncD:=do
 let x ← name
 let p ← params
 let s ← signature sz n
 let b ← bounds sz
 let l ← block (stmtF sz n n)
 pure (.mk x p b [] s.1 s.2 l off)
def item (m:ModD):Rd ModD:=do
 let o ← offsetR sz
 let w ← expect [[100,97,116,97],[116,114,97,105,116],[105,109,112,108],[102,110]]
 if w=[100,97,116,97] then
  let d ← data sz n o
  pure { m with datas:=m.datas ++ [d] }
 else if w=[116,114,97,105,116] then
  let d ← trait o
  pure { m with traits:=m.traits ++ [d] }
 else if w=[105,109,112,108] then
  let d ← implementation sz n o
  pure { m with impls:=m.impls ++ [d] }
 else
  let d ← function sz n o
  pure { m with funcs:=m.funcs ++ [d] }
def usesF:Nat→List Txt→Rd (List Txt)
 | 0,_=>refuse
 | k+1,l=>do
  if ← accept [[117,115,101]] then
   let x ← name
   let _ ← expect [[59]]
   usesF k (l ++ [x])
  else pure l
def itemsF:Nat→ModD→Rd ModD
 | 0,_=>refuse
 | k+1,m=>do
  if ← doneR then pure m
  else
   let m' ← item sz n m
   itemsF k m'
def module:Rd ModD:=do
 let _ ← expect [[109,111,100,117,108,101]]
 let x ← name
 let _ ← expect [[59]]
 let u ← usesF n []
 itemsF sz n n ⟨x,u,[],[],[],[]⟩
end Go.Proofs.YtghohohagbbajaaGreatDoor.Px
