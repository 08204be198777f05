/- part of the proof -/
import Derived.Test.YtghohohagbbajaaGreatDoorYM
import Derived.Test.YtghohohagbbajaaGreatDoorYN
set_option linter.unusedVariables false
set_option linter.unusedSimpArgs false
set_option linter.unusedSectionVars false
namespace Go.Proofs.YtghohohagbbajaaGreatDoor
open Lx (Tk)
open Px (Txt TyE VarD DataD TraitD BoundD ImplD ArgD ExprD StmtD ArmD FuncD ModD)
theorem Shr.pure {α:Type} (a:α):Shr (Pure.pure a:Px.Rd α):=fun _=>Nat.le_refl _
theorem Shr.refuse {α:Type} : Shr (Px.refuse:Px.Rd α):=fun _=>Nat.le_refl _
theorem Shr.bind {α β:Type} {p:Px.Rd α} {f:α→Px.Rd β} (hp:Shr p) (hf:∀ a,Shr (f a)):Shr (p >>= f):=by
 intro ts
 have h1:=hp ts
 show match Px.Rd.bind p f ts with|.ok _ r=>_|.bad r=>_
 unfold Px.Rd.bind
 cases hq:p ts with
 | ok a r =>
  rw[hq] at h1
  simp only
  have h2:=hf a r
  cases hq2:f a r with
  | ok b r'=>rw[hq2] at h2;exact Nat.le_trans h2 h1
  | bad r'=>rw[hq2] at h2;exact Nat.le_trans h2 h1
 | bad r=>rw[hq] at h1;exact h1
theorem Shr.ite {α:Type} {c:Prop} [Decidable c] {p q:Px.Rd α} (hp:Shr p) (hq:Shr q):Shr (if c then p else q):=by
 split
 ·exact hp
 ·exact hq
theorem Shr.word:Shr Px.wordR:=fun _=>Nat.le_refl _
theorem Shr.offset (sz:Nat):Shr (Px.offsetR sz):=fun ts=>by cases ts <;> exact Nat.le_refl _
theorem Shr.num:Shr Px.numR:=fun ts=>by cases ts <;> exact Nat.le_refl _
theorem Shr.done:Shr Px.doneR:=fun _=>Nat.le_refl _
theorem Shr.take:Shr Px.take:=fun ts=>by simp[Px.take]
theorem Shr.expect (ws:List Txt):Shr (Px.expect ws):=fun ts=>by
 simp only[Px.expect]
 by_cases h:ws.contains (Px.word ts)=true
 ·rw[if_pos h];simp
 ·rw[if_neg h];exact Nat.le_refl _
theorem Shr.name:Shr Px.name:=fun ts=>by
 cases ts with
 | nil=>exact Nat.le_refl _
 | cons t r =>
  simp only[Px.name]
  by_cases h:t.kind=1∧Px.keyB t.text=false
  ·rw[if_pos h];simp
  ·rw[if_neg h];exact Nat.le_refl _
theorem Shr.number:Shr Px.number:=fun ts=>by
 cases ts with
 | nil=>exact Nat.le_refl _
 | cons t r =>
  simp only[Px.number]
  by_cases h:t.kind=2
  ·rw[if_pos h];simp
  ·rw[if_neg h];exact Nat.le_refl _
theorem Shr.accept (ws:List Txt):Shr (Px.accept ws):=fun ts=>by
 simp only[Px.accept]
 by_cases h:ws.contains (Px.word ts)=true
 ·rw[if_pos h];simp
 ·rw[if_neg h];exact Nat.le_refl _
theorem Shr.listT {α:Type} {read:Px.Rd α} (h:Shr read):∀ (n:Nat) (acc:List α),Shr (Px.listT read n acc)
 | 0,_=>Shr.refuse
 | n+1,acc=>Shr.bind (Shr.accept _) fun _=>Shr.ite (Shr.bind h fun _=>Shr.listT h n _) (Shr.pure _)
theorem Shr.list {α:Type} {read:Px.Rd α} (h:Shr read):Shr (Px.list read):=fun ts=>Shr.bind h (fun a=>Shr.listT h (ts.length+1) [a]) ts
theorem Shr.opt {α:Type} {read:Px.Rd α} (h:Shr read) (o cl:Txt):Shr (Px.optionalList o read cl) :=
 Shr.bind (Shr.accept _) fun _=>Shr.ite (Shr.bind (Shr.list h) fun _=>Shr.bind (Shr.expect _) fun _=>Shr.pure _) (Shr.pure _)
theorem Shr.pos {α:Type} {read:Px.Rd α} (h:Shr read) (o cl:Txt):Shr (Px.possiblyEmptyList o read cl) :=
 Shr.bind (Shr.expect _) fun _=>Shr.bind (Shr.accept _) fun _=>Shr.ite (Shr.pure _) (Shr.bind (Shr.list h) fun _=>Shr.bind (Shr.expect _) fun _=>Shr.pure _)
theorem Shr.untilT {α:Type} {read:Px.Rd α} (h:Shr read):∀ (n:Nat) (acc:List α),Shr (Px.untilT read n acc)
 | 0,_=>Shr.refuse
 | n+1,acc=>Shr.bind (Shr.accept _) fun _=>Shr.ite (Shr.pure _) (Shr.bind h fun _=>Shr.untilT h n _)
theorem Shr.until {α:Type} {read:Px.Rd α} (h:Shr read):Shr (Px.untilBrace read):=fun ts=>Shr.untilT h (ts.length+1) [] ts
theorem shr_typeF (sz:Nat):∀ n,Shr (Px.typeF sz n)
 | 0=>Shr.refuse
 | n+1=>by
  have ih:=shr_typeF sz n
  unfold Px.typeF
  repeat' (first|exact Shr.pure _|exact ih|exact Shr.word|exact Shr.offset _|exact Shr.accept _|exact Shr.expect _|exact Shr.name|exact Shr.opt ih _ _|apply Shr.bind|apply Shr.ite|intro _)
theorem shr_params:Shr Px.params:=Shr.opt Shr.name _ _
theorem shr_bound (sz:Nat):Shr (Px.bound sz):=by
 unfold Px.bound
 repeat' (first|exact Shr.pure _|exact Shr.offset _|exact Shr.expect _|exact Shr.name|apply Shr.bind|intro _)
theorem shr_bounds (sz:Nat):Shr (Px.bounds sz):=by
 unfold Px.bounds
 repeat' (first|exact Shr.pure _|exact Shr.list (shr_bound sz)|exact Shr.accept _|apply Shr.bind|apply Shr.ite|intro _)
theorem shr_variant (sz n:Nat):Shr (Px.variant sz n):=by
 unfold Px.variant
 repeat' (first|exact Shr.pure _|exact Shr.offset _|exact Shr.name|exact Shr.opt (shr_typeF sz n) _ _|apply Shr.bind|intro _)
theorem shr_dropAction:Shr Px.dropAction:=by
 unfold Px.dropAction
 repeat' (first|exact Shr.pure _|exact Shr.accept _|exact Shr.number|apply Shr.bind|apply Shr.ite|intro _)
theorem shr_arg (sz n:Nat):Shr (Px.arg sz n):=by
 unfold Px.arg
 repeat' (first|exact Shr.pure _|exact Shr.offset _|exact Shr.name|exact Shr.expect _|exact shr_typeF sz n|apply Shr.bind|intro _)
theorem shr_captureKind:Shr Px.captureKind:=by
 unfold Px.captureKind
 repeat' (first|exact Shr.pure _|exact Shr.expect _|apply Shr.bind|apply Shr.ite|intro _)
theorem shr_capture (sz n:Nat):Shr (Px.capture sz n):=by
 unfold Px.capture
 repeat' (first|exact Shr.pure _|exact Shr.offset _|exact shr_captureKind|exact shr_arg sz n|apply Shr.bind|intro _)
theorem shr_signature (sz n:Nat):Shr (Px.signature sz n):=by
 unfold Px.signature
 repeat' (first|exact Shr.pure _|exact Shr.expect _|exact Shr.pos (shr_arg sz n) _ _|exact shr_typeF sz n|apply Shr.bind|intro _)
theorem shr_operands:∀ k,Shr (Px.operands k)
 | 0=>Shr.pure _
 | k+1=>by
  have ih:=shr_operands k
  unfold Px.operands
  repeat' (first|exact Shr.pure _|exact ih|exact Shr.name|apply Shr.bind|intro _)
theorem shr_operation (a b:Nat):Shr (Px.operation a b):=Shr.bind (shr_operands _) fun _=>Shr.pure _
theorem shr_reference (a b d:Nat):Shr (Px.reference a b d):=by
 unfold Px.reference
 repeat' (first|exact Shr.accept _|exact shr_operation _ _|apply Shr.bind|apply Shr.ite|intro _)
theorem shr_newValue:Shr Px.newValue:=by
 unfold Px.newValue
 repeat' (first|exact Shr.pure _|exact Shr.expect _|exact Shr.name|exact Shr.opt Shr.name _ _|apply Shr.bind|intro _)
theorem shr_afterName (x:Txt):Shr (Px.afterName x):=by
 unfold Px.afterName
 repeat' (first|exact Shr.pure _|exact Shr.word|exact Shr.accept _|exact Shr.name|exact Shr.number|exact Shr.pos Shr.name _ _|apply Shr.bind|apply Shr.ite|intro _)
theorem shr_unplaced (sz n:Nat):Shr (Px.unplaced sz n):=by
 unfold Px.unplaced
 repeat' (first|exact Shr.pure _|exact Shr.num|exact Shr.accept _|exact Shr.name|exact Shr.number|exact shr_newValue|exact shr_operation _ _|exact shr_reference _ _ _|exact shr_afterName _|exact shr_typeF sz n|apply Shr.bind|apply Shr.ite|intro _)
theorem shr_expr (sz n:Nat):Shr (Px.expr sz n):=Shr.bind (Shr.offset _) fun _=>Shr.bind (shr_unplaced sz n) fun _=>Shr.pure _
theorem shr_block {s:Px.Rd StmtD} (h:Shr s):Shr (Px.block s):=Shr.bind (Shr.expect _) fun _=>Shr.until h
theorem shr_arm (sz:Nat) {s:Px.Rd StmtD} (h:Shr s):Shr (Px.arm sz s):=by
 unfold Px.arm
 repeat' (first|exact Shr.pure _|exact Shr.offset _|exact Shr.name|exact Shr.opt Shr.name _ _|exact shr_block h|apply Shr.bind|intro _)
theorem shr_local (sz n o:Nat) {s:Px.Rd StmtD} (h:Shr s):Shr (Px.localFunction sz n s o):=by
 unfold Px.localFunction
 repeat' (first|exact Shr.pure _|exact Shr.name|exact Shr.pos (shr_capture sz n) _ _|exact shr_signature sz n|exact shr_block h|apply Shr.bind|intro _)
theorem shr_afterForm (sz n k o:Nat) {s:Px.Rd StmtD} (h:Shr s):Shr (Px.afterForm sz n s k o):=by
 unfold Px.afterForm Px.letS Px.storeS Px.choiceS Px.loopS Px.matchS Px.bareS Px.sendS Px.spawnS Px.localS Px.namedS
 repeat' (first|exact Shr.pure _|exact Shr.name|exact Shr.expect _|exact Shr.accept _|exact shr_typeF sz n|exact shr_expr sz n|exact shr_block h|exact shr_arm sz h|exact Shr.until (shr_arm sz h)|exact Shr.pos Shr.name _ _|exact shr_local sz n o h|apply Shr.bind|apply Shr.ite|intro _)
theorem shr_setS (sz n o:Nat):Shr (Px.setS sz n o):=by
 unfold Px.setS
 repeat' (first|exact Shr.pure _|exact Shr.name|exact Shr.expect _|exact shr_expr sz n|apply Shr.bind|intro _)
theorem shr_stmtF (sz n:Nat):∀ m,Shr (Px.stmtF sz n m)
 | 0=>Shr.refuse
 | m+1=>by
  have ih:=shr_stmtF sz n m
  unfold Px.stmtF
  repeat' (first|exact Shr.offset _|exact Shr.word|exact shr_setS _ _ _|exact Shr.take|exact shr_afterForm _ _ _ _ ih|apply Shr.bind|apply Shr.ite|intro _)
theorem Strict.left {α β:Type} {p:Px.Rd α} {f:α→Px.Rd β} (hp:Strict p) (hf:∀ a,Shr (f a)):Strict (p >>= f):=by
 intro ts b r h
 change Px.Rd.bind p f ts=_ at h
 unfold Px.Rd.bind at h
 cases hq:p ts with
 | ok a r'=>rw[hq] at h;exact Nat.lt_of_le_of_lt ((hf a).ok h) (hp _ _ _ hq)
 | bad r'=>rw[hq] at h;cases h
theorem Strict.right {α β:Type} {p:Px.Rd α} {f:α→Px.Rd β} (hp:Shr p) (hf:∀ a,Strict (f a)):Strict (p >>= f):=by
 intro ts b r h
 change Px.Rd.bind p f ts=_ at h
 unfold Px.Rd.bind at h
 cases hq:p ts with
 | ok a r'=>rw[hq] at h;exact Nat.lt_of_lt_of_le (hf a _ _ _ h) (hp.ok hq)
 | bad r'=>rw[hq] at h;cases h
theorem Strict.name:Strict Px.name:=by
 intro ts a r h
 cases ts with
 | nil=>cases h
 | cons t r' =>
  simp only[Px.name] at h
  split at h
  ·cases h;simp
  ·cases h
theorem strict_arm (sz:Nat) {s:Px.Rd StmtD} (h:Shr s):Strict (Px.arm sz s):=by
 unfold Px.arm
 refine Strict.right (Shr.offset _) fun _=>Strict.left Strict.name fun _=>?_
 repeat' (first|exact Shr.pure _|exact Shr.opt Shr.name _ _|exact shr_block h|apply Shr.bind|intro _)
theorem strict_stmtF (sz n:Nat):∀ m,Strict (Px.stmtF sz n m)
 | 0=>fun ts a r h=>by cases h
 | m+1=>by
  intro ts a r h
  have ih:=shr_stmtF sz n m
  cases ts with
  | nil=>simp[Px.stmtF,bind,Px.Rd.bind,Px.offsetR,Px.wordR,Px.word,Px.formOf,Px.forms,Px.setS,Px.name,List.lookup] at h
  | cons t r' =>
   simp only[Px.stmtF,bind,Px.Rd.bind,Px.offsetR,Px.wordR] at h
   by_cases h2:Px.formOf (Px.word (t :: r'))=2
   ·rw[if_pos h2] at h
    exact Strict.left Strict.name (fun _=>by repeat' (first|exact Shr.pure _|exact Shr.expect _|exact shr_expr sz n|apply Shr.bind|intro _)) _ _ _ h
   ·rw[if_neg h2] at h
    change Px.afterForm sz n (Px.stmtF sz n m) (Px.formOf (Px.word (t :: r'))) t.off r'=_ at h
    have:=(shr_afterForm sz n (Px.formOf (Px.word (t :: r'))) t.off ih).ok h
    simp;omega
end Go.Proofs.YtghohohagbbajaaGreatDoor
namespace Go.Proofs.YtghohohagbbajaaGreatDoor
open Go.RowKit Go.Lib
open Lx (Tk)
open Px (Txt TyE VarD DataD TraitD BoundD ImplD ArgD ExprD StmtD ArmD FuncD ModD)
def Q.kinds:Q→List Nat
 | .nil=>[]
 | .int _ r=>0 :: r.kinds
 | .str _ r=>1 :: r.kinds
 | .sl _ _ _ _ r=>2 :: r.kinds
def ofKind:Nat→Value→Prop
 | 0,v=>∃ n,v=.int .i64 n
 | 1,v=>∃ s,v=.string s
 | _,v=>∃ p n k,v=.slice p n k
theorem row_shp {E s B:Nat} {α:Type} {f:α→Q} {l:List α} {w:World} {v:Value} (h:okRow E s f B l w v):∃ p n k,v=.slice p n k:=by
 rcases h with ⟨rfl,_⟩|⟨_,_,_,_,rfl,_⟩ <;> exact⟨_,_,_,rfl⟩
theorem Q.kinds_app:∀ (x y:Q),(x.app y).kinds=x.kinds ++ y.kinds
 | .nil,y=>rfl
 | .int n r,y=>by rw[Q.app,Q.kinds,Q.kinds,Q.kinds_app r];rfl
 | .str n r,y=>by rw[Q.app,Q.kinds,Q.kinds,Q.kinds_app r];rfl
 | .sl E s n q r,y=>by rw[Q.app,Q.kinds,Q.kinds,Q.kinds_app r];rfl
theorem Rep.kind {w:World} {N:Nat→Prop} : ∀ {q:Q} {cs:List Value} (i:Nat) {v:Value} {k:Nat},Rep w N q cs→cs[i]?=some v→q.kinds[i]?=some k→ofKind k v
 | .nil,cs,i,v,k,h,h1,h2=>by simp[Q.kinds] at h2
 | .int n r,cs,i,v,k,h,h1,h2=>by
  rw[Rep] at h;obtain⟨c,rfl,h⟩:=h
  cases i with
  | zero=>simp[Q.kinds] at h1 h2;subst h1;subst h2;exact⟨_,rfl⟩
  | succ i=>simp[Q.kinds] at h1 h2;exact Rep.kind i h h1 h2
 | .str n r,cs,i,v,k,h,h1,h2=>by
  rw[Rep] at h;obtain⟨c,rfl,h⟩:=h
  cases i with
  | zero=>simp[Q.kinds] at h1 h2;subst h1;subst h2;exact⟨_,rfl⟩
  | succ i=>simp[Q.kinds] at h1 h2;exact Rep.kind i h h1 h2
 | .sl E s n q r,cs,i,v,k,h,h1,h2=>by
  rw[Rep] at h;obtain⟨u,c,rfl,hu,h⟩:=h
  cases i with
  | zero =>
   simp[Q.kinds] at h1 h2;subst h1;subst h2
   rcases hu with ⟨rfl,_⟩|⟨_,_,_,_,rfl,_⟩ <;> exact⟨_,_,_,rfl⟩
  | succ i=>simp[Q.kinds] at h1 h2;exact Rep.kind i h h1 h2
theorem kinds_typeQ (x:TyE):(typeQ x).kinds=[1,2,0]:=by cases x;rw[typeQ_mk] <;> rfl
theorem kinds_exprQ (x:ExprD):(exprQ x).kinds=[0,1,1,1,2,0,2,0]:=rfl
theorem kinds_varQ (x:VarD):(varQ x).kinds=[1,2,0]:=rfl
theorem kinds_argQ (x:ArgD):(argQ x).kinds=[1,1,2,0,0,0]:=by simp only[argQ,strsQ,boundsS,Q.kinds,Q.kinds_app,kinds_typeQ] <;> rfl
theorem kinds_dataQ (x:DataD):(dataQ x).kinds=[1,2,2,0,0]:=rfl
theorem kinds_traitQ (x:TraitD):(traitQ x).kinds=[1,0]:=rfl
theorem kinds_implQ (x:ImplD):(implQ x).kinds=[1,2,2,1,2,0,1,0]:=by simp only[implQ,strsQ,boundsS,Q.kinds,Q.kinds_app,kinds_typeQ] <;> rfl
theorem kinds_funcQ (x:FuncD):(funcQ x).kinds=[1,2,2,2,2,1,2,0,2,0]:=by cases x;simp only[funcQ_mk,strsQ,typesS,boundsS,argsS,stmtsS,armsS,funcsS,Q.kinds,Q.kinds_app,kinds_typeQ,kinds_exprQ] <;> rfl
theorem kinds_stmtQ (x:StmtD):(stmtQ x).kinds=[0,1,2,2,0,1,1,1,2,0,2,0,2,2,2,2,0]:=by cases x;simp only[stmtQ_mk,strsQ,typesS,boundsS,argsS,stmtsS,armsS,funcsS,Q.kinds,Q.kinds_app,kinds_typeQ,kinds_exprQ] <;> rfl
theorem kinds_armQ (x:ArmD):(armQ x).kinds=[1,2,2,0]:=by cases x;simp only[armQ_mk,strsQ,typesS,boundsS,argsS,stmtsS,armsS,funcsS,Q.kinds,Q.kinds_app,kinds_typeQ,kinds_exprQ] <;> rfl
theorem kinds_modQ (x:ModD):(modQ x).kinds=[1,2,2,2,2,2]:=rfl
theorem kind_typeQ (x:TyE) (i:Nat) {k:Nat} (h:([1,2,0]:List Nat)[i]?=some k):(typeQ x).kinds[i]?=some k:=by rw[kinds_typeQ];exact h
theorem kind_exprQ (x:ExprD) (i:Nat) {k:Nat} (h:([0,1,1,1,2,0,2,0]:List Nat)[i]?=some k):(exprQ x).kinds[i]?=some k:=by rw[kinds_exprQ];exact h
theorem kind_varQ (x:VarD) (i:Nat) {k:Nat} (h:([1,2,0]:List Nat)[i]?=some k):(varQ x).kinds[i]?=some k:=by rw[kinds_varQ];exact h
theorem kind_argQ (x:ArgD) (i:Nat) {k:Nat} (h:([1,1,2,0,0,0]:List Nat)[i]?=some k):(argQ x).kinds[i]?=some k:=by rw[kinds_argQ];exact h
theorem kind_dataQ (x:DataD) (i:Nat) {k:Nat} (h:([1,2,2,0,0]:List Nat)[i]?=some k):(dataQ x).kinds[i]?=some k:=by rw[kinds_dataQ];exact h
theorem kind_traitQ (x:TraitD) (i:Nat) {k:Nat} (h:([1,0]:List Nat)[i]?=some k):(traitQ x).kinds[i]?=some k:=by rw[kinds_traitQ];exact h
theorem kind_implQ (x:ImplD) (i:Nat) {k:Nat} (h:([1,2,2,1,2,0,1,0]:List Nat)[i]?=some k):(implQ x).kinds[i]?=some k:=by rw[kinds_implQ];exact h
theorem kind_funcQ (x:FuncD) (i:Nat) {k:Nat} (h:([1,2,2,2,2,1,2,0,2,0]:List Nat)[i]?=some k):(funcQ x).kinds[i]?=some k:=by rw[kinds_funcQ];exact h
theorem kind_stmtQ (x:StmtD) (i:Nat) {k:Nat} (h:([0,1,2,2,0,1,1,1,2,0,2,0,2,2,2,2,0]:List Nat)[i]?=some k):(stmtQ x).kinds[i]?=some k:=by rw[kinds_stmtQ];exact h
theorem kind_armQ (x:ArmD) (i:Nat) {k:Nat} (h:([1,2,2,0]:List Nat)[i]?=some k):(armQ x).kinds[i]?=some k:=by rw[kinds_armQ];exact h
theorem kind_modQ (x:ModD) (i:Nat) {k:Nat} (h:([1,2,2,2,2,2]:List Nat)[i]?=some k):(modQ x).kinds[i]?=some k:=by rw[kinds_modQ];exact h
theorem offset_res (c:Ctx) (ts:List Tk):Px.offsetR c.size ts=.ok (offOf c.size ts) ts:=by cases ts <;> rfl
theorem Fr.wide {R:Nat} {X:List Nat} {w w':World} (h:Fr [R] w w'):Fr (R :: X) w w':=h.mono (fun k _ hk=>by simp at hk;simp[hk])
theorem Fr.join {R:Nat} {X:List Nat} {w0 w w':World} (h:Fr [R] w0 w) (h':Fr (R :: X) w w') (hX:∀ k∈X,w0.heap.size≤k):Fr [R] w0 w' :=
 ⟨h'.os.trans h.os,h'.tape.trans h.tape,h'.output.trans h.output,Nat.le_trans h.size h'.size,fun k hk hx=>(h'.block k (Nat.lt_of_lt_of_le hk h.size) (fun hx'=>by
  rcases List.mem_cons.1 hx' with rfl|hx'
  ·exact hx (by simp)
  ·have:=hX k hx';omega)).trans (h.block k hk hx)⟩
theorem row_own {E s B b:Nat} {α:Type} {f:α→Q} {l:List α} {X:List Nat} {w w':World} {v:Value} (h:okRow E s f B l w v) (hB:b≤B) (hf:Fr X w w') (hX:∀ k∈X,k<B):okRow E s f b l w' v :=
 RowV.mono h (fun k hk hl=>⟨by omega,hf.block k hl (fun hx=>by have:=hX k hx;omega)⟩)
theorem rep_own {B b:Nat} {q:Q} {cs:List Value} {X:List Nat} {w w':World} (h:Rep w (fun k=>B≤k) q cs) (hf:Fr X w w') (hX:∀ k∈X,k<B) (hB:b≤B:=by exact Nat.le_refl _):Rep w' (fun k=>b≤k) q cs :=
 h.mono (fun k hk hl=>⟨by omega,hf.block k hl (fun hx=>by have:=hX k hx;omega)⟩)
theorem row_one {w:World} {b g E s:Nat} {α:Type} {f:α→Q} {a:α} {xs:List Value} (hB:Blk w g E xs.toArray) (hb:b≤g) (hl:xs.length=s) (hq:Rep w (fun k=>b≤k) (f a) xs):okRow E s f b [a] w (.slice (some ⟨g,0,none⟩) 1 1):=by
 unfold okRow
 rw[rowsQ_one]
 exact .inr ⟨g,1,xs.toArray,xs,rfl,by simp,hb,hB,by simp,by unfold maxLen;decide,by simp[hl],by rw[List.length_singleton,Nat.one_mul,← hl];simp,by rw[hl,List.length_singleton,Nat.one_mul],hq⟩
def Ctx.Apart (c:Ctx) (b:Nat):Prop:=b≠c.R∧b≠c.Tb∧b≠c.Kb∧b≠c.Sb
theorem Inv.apart {c:Ctx} {ts:List Tk} {w:World} (h:Inv c ts w) {b:Nat} (hb:w.heap.size≤b):c.Apart b:=by
 have:=h.lt
 exact⟨by omega,by omega,by omega,by omega⟩
theorem Inv.frp {c:Ctx} {ts:List Tk} {w w':World} {b:Nat} (h:Inv c ts w) (hap:c.Apart b) (hf:Fr [b] w w'):Inv c ts w' :=
 h.same hf.size (fun k hk=>hf.block k (by have:=h.lt;rcases hk with rfl|rfl|rfl|rfl <;> omega) (by
  obtain⟨h1,h2,h3,h4⟩:=hap
  simp only[List.mem_singleton]
  rcases hk with rfl|rfl|rfl|rfl <;> omega))
def RPB {α:Type} (c:Ctx) (b T:Nat) (w:World) (okc:Nat→α→World→List Value→Prop) (r:Px.Res α) (e:Ending) (w':World):Prop :=
 Fr [c.R,b] w w' ∧
 match r with
 | .ok a ts=>Inv c ts w'∧e=.returned (.tuple #[])∧∃ cs,Blk w' b T cs.toArray∧okc w.heap.size a w' cs
 | .bad ts=>Inv c ts w'∧e=.panicked [failE c ts]
theorem RPB.cases {α:Type} {c:Ctx} {b T:Nat} {w w':World} {okc:Nat→α→World→List Value→Prop} {r:Px.Res α} {e:Ending} (h:RPB c b T w okc r e w') :
  (∃ a ts cs,Hid (r=.ok a ts)∧Fr [c.R,b] w w'∧Inv c ts w'∧e=.returned (.tuple #[])∧Blk w' b T cs.toArray∧okc w.heap.size a w' cs)∨(∃ ts,Hid (r=.bad ts)∧Fr [c.R,b] w w'∧Inv c ts w'∧e=.panicked [failE c ts]):=by
 obtain⟨h1,h2⟩:=h
 cases r with
 | ok a ts=>obtain⟨h3,h4,cs,h5,h6⟩:=h2;exact .inl ⟨a,ts,cs,hid rfl,h1,h3,h4,h5,h6⟩
 | bad ts=>exact .inr ⟨ts,hid rfl,h1,h2.1,h2.2⟩
theorem RPB.ok {α:Type} {c:Ctx} {b T:Nat} {w w':World} {okc:Nat→α→World→List Value→Prop} {r:Px.Res α} {a:α} {ts:List Tk} {cs:List Value} (hr:r=.ok a ts) (h1:Fr [c.R,b] w w') (h2:Inv c ts w') (h3:Blk w' b T cs.toArray) (h4:okc w.heap.size a w' cs) :
  RPB c b T w okc r (.returned (.tuple #[])) w':=by
 subst hr;exact⟨h1,h2,rfl,cs,h3,h4⟩
theorem RPB.bad {α:Type} {c:Ctx} {b T:Nat} {w w':World} {okc:Nat→α→World→List Value→Prop} {r:Px.Res α} {ts:List Tk} (hr:r=.bad ts) (h1:Fr [c.R,b] w w') (h2:Inv c ts w'):RPB c b T w okc r (.panicked [failE c ts]) w':=by
 subst hr;exact⟨h1,h2,rfl⟩
def okCells {α:Type} (f:α→Q):Nat→α→World→List Value→Prop:=fun B a w cs=>Rep w (fun k=>B≤k) (f a) cs
theorem enters_type:Enters 77:=fun _ _=>by kernel_rfl
theorem enters_bound:Enters 139:=fun _ _=>by kernel_rfl
theorem enters_variant:Enters 116:=fun _ _=>by kernel_rfl
theorem enters_arg:Enters 137:=fun _ _=>by kernel_rfl
theorem enters_capture:Enters 109:=fun _ _=>by kernel_rfl
theorem enters_name:Enters 54:=fun _ _=>by kernel_rfl
theorem enters_stmt:Enters 105:=fun _ _=>by kernel_rfl
theorem enters_arm:Enters 80:=fun _ _=>by kernel_rfl
theorem make_func:∀ (fn:Fn) (first cap:Array Value) (w:World),(Instr.makeFunc fn first cap).run Tryz.prog w=.ok (.func fn first cap) w:=fun _ _ _ _=>rfl
theorem reads_name (c:Ctx) (m:Nat):Reads c 54 m okStr Px.name:=fun ts w h _=>name_any c ts w h
abbrev zN:Value:=.slice none 0 0
abbrev zS:Value:=.string ⟨#[]⟩
abbrev zI:Value:=.int .i64 0
variable {X:List Nat} {a w w':World}
instance:Nonempty (Fr X w w):=⟨Fr.refl _ _⟩
instance [h:Nonempty (Fr X a w)] (o:Obj):Nonempty (Fr X a (w.alloc o)):=⟨h.elim (·.alloc o)⟩
instance [h:Nonempty (Fr X a w)]:Nonempty (Fr X a w.drew):=⟨h.elim (·.drew)⟩
instance [h:Nonempty (Fr X a w)] (n:Nat):Nonempty (Fr X a (w.drewN n)):=⟨h.elim (·.drewN n)⟩
instance (k:Nat) (l:List Nat):Nonempty (k∈k :: l):=⟨List.mem_cons_self ..⟩
instance (k j:Nat) (l:List Nat) [h:Nonempty (k∈l)]:Nonempty (k∈j :: l):=⟨List.mem_cons_of_mem _ (h.elim id)⟩
instance (b o:Nat) (v:Value) [h:Nonempty (Fr X a w)] [m:Nonempty (b∈X)]:Nonempty (Fr X a (w.setCell ⟨b,o,none⟩ v)):=⟨h.elim (·.setCell (.inl (m.elim id)) v)⟩
theorem frk [h:Nonempty (Fr X a w)]:Fr X a w:=h.elim id
theorem Blk.k {b T:Nat} {cs:Array Value} (h:Blk w b T cs) (hf:Fr X w w') (hx:b ∉ X:=by first|(simp;done)|omega|(simp;omega)):Blk w' b T cs:=h.keep hf hx
theorem Blk.f {b T:Nat} {cs:Array Value} (h:Blk w b T cs) (X:List Nat) (hx:b ∉ X:=by first|(simp;done)|omega|(simp;omega)) [hf:Nonempty (Fr X w w')]:Blk w' b T cs:=h.keep (hf.elim id) hx
theorem Blk.at {b T:Nat} {cs:Array Value} (h:Blk w b T cs) (i:Nat) {v:Value} (e:cs[i]?=some v):w.cell? ⟨b,i,none⟩=some v:=(h.cell i).trans e
theorem Fr.j {R:Nat} {w0:World} (h:Fr [R] w0 w) (h':Fr (R :: X) w w') (hX:∀ k∈X,w0.heap.size≤k:=by first|(simp;done)|omega|(simp;omega)):Fr [R] w0 w':=h.join h' hX
theorem Fr.jf {R:Nat} {w0:World} (h:Fr [R] w0 w) (X:List Nat) (hX:∀ k∈X,w0.heap.size≤k:=by first|(simp;done)|omega|(simp;omega)) [h':Nonempty (Fr (R :: X) w w')]:Fr [R] w0 w':=h.join (h'.elim id) hX
theorem Blk.df {b T:Nat} {cs:Array Value} (h:Blk w b T cs) (i:Nat) {v:Value} (e:cs[i]?=some v):w.cell? ⟨b,i,none⟩=some v∧w.frozen? ⟨b,i,none⟩=false:=⟨(h.cell i).trans e,h.frozen i⟩
theorem Blk.row {b T:Nat} {cs:Array Value} (h:Blk w b T cs) (X:List Nat) (hx:b ∉ X:=by first|(simp;done)|omega|(simp;omega)) [hf:Nonempty (Fr X w w')]:w'.heap[b]?=some (.cells cs T (0,0)):=h.keep (hf.elim id) hx
theorem Fr.jt {R:Nat} {w0 wx:World} (h:Fr [R] w0 w) (X:List Nat) (hf:Fr [R] wx w') (hX:∀ k∈X,w0.heap.size≤k:=by first|(simp;done)|omega|(simp;omega)) [h':Nonempty (Fr (R :: X) w wx)]:Fr [R] w0 w':=h.join ((h'.elim id).trans hf.wide) hX
theorem Inv.f {c:Ctx} {ts ts0:List Tk} {w0:World} (h:Inv c ts w) (X:List Nat) (h0:Inv c ts0 w0) (hX:∀ k∈X,w0.heap.size≤k:=by first|(simp;done)|omega|(simp;omega)) [hf:Nonempty (Fr X w w')]:Inv c ts w':=h.fr h0 (hf.elim id) hX
theorem Inv.st0 {c:Ctx} {ts:List Tk} {w0 wx:World} (X:List Nat) (hF:Fr [c.R] w0 w) (hf:Fr [c.R] wx w') (hi:Inv c ts w') (hX:∀ k∈X,w0.heap.size≤k:=by first|(simp;done)|omega|(simp;omega)) [h:Nonempty (Fr (c.R :: X) w wx)]:Fr (c.R :: X) w w'∧Hid (Inv c ts w')∧Hid (Fr [c.R] w0 w')∧wx.heap.size≤w'.heap.size :=
 have hT:Fr (c.R :: X) w w':=(h.elim id).trans hf.wide
 ⟨hT,hid hi,hid (hF.join hT hX),hf.size⟩
theorem Inv.st {c:Ctx} {ts:List Tk} {w0 wx:World} {B T:Nat} {cs:Array Value} (X:List Nat) (hB:Blk w B T cs) (hF:Fr [c.R] w0 w) (hf:Fr [c.R] wx w') (hi:Inv c ts w') (hX:∀ k∈X,w0.heap.size≤k:=by first|(simp;done)|omega|(simp;omega)) (hb:B ∉ c.R :: X:=by first|(simp;done)|omega|(simp;omega)) [h:Nonempty (Fr (c.R :: X) w wx)]:Fr (c.R :: X) w w'∧Hid (Blk w' B T cs)∧Hid (Inv c ts w')∧Hid (Fr [c.R] w0 w')∧wx.heap.size≤w'.heap.size :=
 have hT:Fr (c.R :: X) w w':=(h.elim id).trans hf.wide
 ⟨hT,hid (hB.keep hT hb),hid hi,hid (hF.join hT hX),hf.size⟩
theorem Blk.c3 {b T:Nat} {v0 v1 v2:Value} (h:Blk w b T #[v0,v1,v2]):w.cell? ⟨b,0,none⟩=some v0∧w.cell? ⟨b,1,none⟩=some v1∧w.cell? ⟨b,2,none⟩=some v2 :=
 ⟨h.cell 0,h.cell 1,h.cell 2⟩
theorem Blk.cf3 {b T:Nat} {v0 v1 v2:Value} (h:Blk w b T #[v0,v1,v2]):w.cell? ⟨b,0,none⟩=some v0∧w.cell? ⟨b,1,none⟩=some v1∧w.cell? ⟨b,2,none⟩=some v2∧w.frozen? ⟨b,0,none⟩=false∧w.frozen? ⟨b,1,none⟩=false∧w.frozen? ⟨b,2,none⟩=false :=
 ⟨h.cell 0,h.cell 1,h.cell 2,h.frozen 0,h.frozen 1,h.frozen 2⟩
theorem Blk.c5 {b T:Nat} {v0 v1 v2 v3 v4:Value} (h:Blk w b T #[v0,v1,v2,v3,v4]):w.cell? ⟨b,0,none⟩=some v0∧w.cell? ⟨b,1,none⟩=some v1∧w.cell? ⟨b,2,none⟩=some v2∧w.cell? ⟨b,3,none⟩=some v3∧w.cell? ⟨b,4,none⟩=some v4 :=
 ⟨h.cell 0,h.cell 1,h.cell 2,h.cell 3,h.cell 4⟩
theorem Blk.cf5 {b T:Nat} {v0 v1 v2 v3 v4:Value} (h:Blk w b T #[v0,v1,v2,v3,v4]):w.cell? ⟨b,0,none⟩=some v0∧w.cell? ⟨b,1,none⟩=some v1∧w.cell? ⟨b,2,none⟩=some v2∧w.cell? ⟨b,3,none⟩=some v3∧w.cell? ⟨b,4,none⟩=some v4∧w.frozen? ⟨b,0,none⟩=false∧w.frozen? ⟨b,1,none⟩=false∧w.frozen? ⟨b,2,none⟩=false∧w.frozen? ⟨b,3,none⟩=false∧w.frozen? ⟨b,4,none⟩=false :=
 ⟨h.cell 0,h.cell 1,h.cell 2,h.cell 3,h.cell 4,h.frozen 0,h.frozen 1,h.frozen 2,h.frozen 3,h.frozen 4⟩
theorem Blk.c6 {b T:Nat} {v0 v1 v2 v3 v4 v5:Value} (h:Blk w b T #[v0,v1,v2,v3,v4,v5]):w.cell? ⟨b,0,none⟩=some v0∧w.cell? ⟨b,1,none⟩=some v1∧w.cell? ⟨b,2,none⟩=some v2∧w.cell? ⟨b,3,none⟩=some v3∧w.cell? ⟨b,4,none⟩=some v4∧w.cell? ⟨b,5,none⟩=some v5 :=
 ⟨h.cell 0,h.cell 1,h.cell 2,h.cell 3,h.cell 4,h.cell 5⟩
theorem Blk.cf6 {b T:Nat} {v0 v1 v2 v3 v4 v5:Value} (h:Blk w b T #[v0,v1,v2,v3,v4,v5]):w.cell? ⟨b,0,none⟩=some v0∧w.cell? ⟨b,1,none⟩=some v1∧w.cell? ⟨b,2,none⟩=some v2∧w.cell? ⟨b,3,none⟩=some v3∧w.cell? ⟨b,4,none⟩=some v4∧w.cell? ⟨b,5,none⟩=some v5∧w.frozen? ⟨b,0,none⟩=false∧w.frozen? ⟨b,1,none⟩=false∧w.frozen? ⟨b,2,none⟩=false∧w.frozen? ⟨b,3,none⟩=false∧w.frozen? ⟨b,4,none⟩=false∧w.frozen? ⟨b,5,none⟩=false :=
 ⟨h.cell 0,h.cell 1,h.cell 2,h.cell 3,h.cell 4,h.cell 5,h.frozen 0,h.frozen 1,h.frozen 2,h.frozen 3,h.frozen 4,h.frozen 5⟩
theorem Blk.c8 {b T:Nat} {v0 v1 v2 v3 v4 v5 v6 v7:Value} (h:Blk w b T #[v0,v1,v2,v3,v4,v5,v6,v7]):w.cell? ⟨b,0,none⟩=some v0∧w.cell? ⟨b,1,none⟩=some v1∧w.cell? ⟨b,2,none⟩=some v2∧w.cell? ⟨b,3,none⟩=some v3∧w.cell? ⟨b,4,none⟩=some v4∧w.cell? ⟨b,5,none⟩=some v5∧w.cell? ⟨b,6,none⟩=some v6∧w.cell? ⟨b,7,none⟩=some v7 :=
 ⟨h.cell 0,h.cell 1,h.cell 2,h.cell 3,h.cell 4,h.cell 5,h.cell 6,h.cell 7⟩
theorem Blk.cf8 {b T:Nat} {v0 v1 v2 v3 v4 v5 v6 v7:Value} (h:Blk w b T #[v0,v1,v2,v3,v4,v5,v6,v7]):w.cell? ⟨b,0,none⟩=some v0∧w.cell? ⟨b,1,none⟩=some v1∧w.cell? ⟨b,2,none⟩=some v2∧w.cell? ⟨b,3,none⟩=some v3∧w.cell? ⟨b,4,none⟩=some v4∧w.cell? ⟨b,5,none⟩=some v5∧w.cell? ⟨b,6,none⟩=some v6∧w.cell? ⟨b,7,none⟩=some v7∧w.frozen? ⟨b,0,none⟩=false∧w.frozen? ⟨b,1,none⟩=false∧w.frozen? ⟨b,2,none⟩=false∧w.frozen? ⟨b,3,none⟩=false∧w.frozen? ⟨b,4,none⟩=false∧w.frozen? ⟨b,5,none⟩=false∧w.frozen? ⟨b,6,none⟩=false∧w.frozen? ⟨b,7,none⟩=false :=
 ⟨h.cell 0,h.cell 1,h.cell 2,h.cell 3,h.cell 4,h.cell 5,h.cell 6,h.cell 7,h.frozen 0,h.frozen 1,h.frozen 2,h.frozen 3,h.frozen 4,h.frozen 5,h.frozen 6,h.frozen 7⟩
theorem Rep.c_typeQ {N:Nat→Prop} {x:TyE} {cs:List Value} (h:Rep w N (typeQ x) cs):∃ s0 p1 n1 c1 i2,cs=[.string s0,.slice p1 n1 c1,.int .i64 i2]:=by
 obtain⟨y0,y1,y2,rfl⟩:=cells_3 (h.len.trans (len_typeQ x))
 obtain⟨s0,rfl⟩:=h.kind 0 rfl (kind_typeQ x 0 rfl)
 obtain⟨p1,n1,c1,rfl⟩:=h.kind 1 rfl (kind_typeQ x 1 rfl)
 obtain⟨i2,rfl⟩:=h.kind 2 rfl (kind_typeQ x 2 rfl)
 exact⟨_,_,_,_,_,rfl⟩
theorem Rep.c_varQ {N:Nat→Prop} {x:VarD} {cs:List Value} (h:Rep w N (varQ x) cs):∃ s0 p1 n1 c1 i2,cs=[.string s0,.slice p1 n1 c1,.int .i64 i2]:=by
 obtain⟨y0,y1,y2,rfl⟩:=cells_3 (h.len.trans (len_varQ x))
 obtain⟨s0,rfl⟩:=h.kind 0 rfl (kind_varQ x 0 rfl)
 obtain⟨p1,n1,c1,rfl⟩:=h.kind 1 rfl (kind_varQ x 1 rfl)
 obtain⟨i2,rfl⟩:=h.kind 2 rfl (kind_varQ x 2 rfl)
 exact⟨_,_,_,_,_,rfl⟩
theorem Rep.c_argQ {N:Nat→Prop} {x:ArgD} {cs:List Value} (h:Rep w N (argQ x) cs):∃ s0 s1 p2 n2 c2 i3 i4 i5,cs=[.string s0,.string s1,.slice p2 n2 c2,.int .i64 i3,.int .i64 i4,.int .i64 i5]:=by
 obtain⟨y0,y1,y2,y3,y4,y5,rfl⟩:=cells_6 (h.len.trans (len_argQ x))
 obtain⟨s0,rfl⟩:=h.kind 0 rfl (kind_argQ x 0 rfl)
 obtain⟨s1,rfl⟩:=h.kind 1 rfl (kind_argQ x 1 rfl)
 obtain⟨p2,n2,c2,rfl⟩:=h.kind 2 rfl (kind_argQ x 2 rfl)
 obtain⟨i3,rfl⟩:=h.kind 3 rfl (kind_argQ x 3 rfl)
 obtain⟨i4,rfl⟩:=h.kind 4 rfl (kind_argQ x 4 rfl)
 obtain⟨i5,rfl⟩:=h.kind 5 rfl (kind_argQ x 5 rfl)
 exact⟨_,_,_,_,_,_,_,_,rfl⟩
theorem Rep.c_dataQ {N:Nat→Prop} {x:DataD} {cs:List Value} (h:Rep w N (dataQ x) cs):∃ s0 p1 n1 c1 p2 n2 c2 i3 i4,cs=[.string s0,.slice p1 n1 c1,.slice p2 n2 c2,.int .i64 i3,.int .i64 i4]:=by
 obtain⟨y0,y1,y2,y3,y4,rfl⟩:=cells_5 (h.len.trans (len_dataQ x))
 obtain⟨s0,rfl⟩:=h.kind 0 rfl (kind_dataQ x 0 rfl)
 obtain⟨p1,n1,c1,rfl⟩:=h.kind 1 rfl (kind_dataQ x 1 rfl)
 obtain⟨p2,n2,c2,rfl⟩:=h.kind 2 rfl (kind_dataQ x 2 rfl)
 obtain⟨i3,rfl⟩:=h.kind 3 rfl (kind_dataQ x 3 rfl)
 obtain⟨i4,rfl⟩:=h.kind 4 rfl (kind_dataQ x 4 rfl)
 exact⟨_,_,_,_,_,_,_,_,_,rfl⟩
theorem Rep.c_traitQ {N:Nat→Prop} {x:TraitD} {cs:List Value} (h:Rep w N (traitQ x) cs):∃ s0 i1,cs=[.string s0,.int .i64 i1]:=by
 obtain⟨y0,y1,rfl⟩:=cells_2 (h.len.trans (len_traitQ x))
 obtain⟨s0,rfl⟩:=h.kind 0 rfl (kind_traitQ x 0 rfl)
 obtain⟨i1,rfl⟩:=h.kind 1 rfl (kind_traitQ x 1 rfl)
 exact⟨_,_,rfl⟩
theorem Rep.c_implQ {N:Nat→Prop} {x:ImplD} {cs:List Value} (h:Rep w N (implQ x) cs):∃ s0 p1 n1 c1 p2 n2 c2 s3 p4 n4 c4 i5 s6 i7,cs=[.string s0,.slice p1 n1 c1,.slice p2 n2 c2,.string s3,.slice p4 n4 c4,.int .i64 i5,.string s6,.int .i64 i7]:=by
 obtain⟨y0,y1,y2,y3,y4,y5,y6,y7,rfl⟩:=cells_8 (h.len.trans (len_implQ x))
 obtain⟨s0,rfl⟩:=h.kind 0 rfl (kind_implQ x 0 rfl)
 obtain⟨p1,n1,c1,rfl⟩:=h.kind 1 rfl (kind_implQ x 1 rfl)
 obtain⟨p2,n2,c2,rfl⟩:=h.kind 2 rfl (kind_implQ x 2 rfl)
 obtain⟨s3,rfl⟩:=h.kind 3 rfl (kind_implQ x 3 rfl)
 obtain⟨p4,n4,c4,rfl⟩:=h.kind 4 rfl (kind_implQ x 4 rfl)
 obtain⟨i5,rfl⟩:=h.kind 5 rfl (kind_implQ x 5 rfl)
 obtain⟨s6,rfl⟩:=h.kind 6 rfl (kind_implQ x 6 rfl)
 obtain⟨i7,rfl⟩:=h.kind 7 rfl (kind_implQ x 7 rfl)
 exact⟨_,_,_,_,_,_,_,_,_,_,_,_,_,_,rfl⟩
theorem Rep.c_funcQ {N:Nat→Prop} {x:FuncD} {cs:List Value} (h:Rep w N (funcQ x) cs):∃ s0 p1 n1 c1 p2 n2 c2 p3 n3 c3 p4 n4 c4 s5 p6 n6 c6 i7 p8 n8 c8 i9,cs=[.string s0,.slice p1 n1 c1,.slice p2 n2 c2,.slice p3 n3 c3,.slice p4 n4 c4,.string s5,.slice p6 n6 c6,.int .i64 i7,.slice p8 n8 c8,.int .i64 i9]:=by
 obtain⟨y0,y1,y2,y3,y4,y5,y6,y7,y8,y9,rfl⟩:=cells_10 (h.len.trans (len_funcQ x))
 obtain⟨s0,rfl⟩:=h.kind 0 rfl (kind_funcQ x 0 rfl)
 obtain⟨p1,n1,c1,rfl⟩:=h.kind 1 rfl (kind_funcQ x 1 rfl)
 obtain⟨p2,n2,c2,rfl⟩:=h.kind 2 rfl (kind_funcQ x 2 rfl)
 obtain⟨p3,n3,c3,rfl⟩:=h.kind 3 rfl (kind_funcQ x 3 rfl)
 obtain⟨p4,n4,c4,rfl⟩:=h.kind 4 rfl (kind_funcQ x 4 rfl)
 obtain⟨s5,rfl⟩:=h.kind 5 rfl (kind_funcQ x 5 rfl)
 obtain⟨p6,n6,c6,rfl⟩:=h.kind 6 rfl (kind_funcQ x 6 rfl)
 obtain⟨i7,rfl⟩:=h.kind 7 rfl (kind_funcQ x 7 rfl)
 obtain⟨p8,n8,c8,rfl⟩:=h.kind 8 rfl (kind_funcQ x 8 rfl)
 obtain⟨i9,rfl⟩:=h.kind 9 rfl (kind_funcQ x 9 rfl)
 exact⟨_,_,_,_,_,_,_,_,_,_,_,_,_,_,_,_,_,_,_,_,_,_,rfl⟩
theorem Rep.c_exprQ {N:Nat→Prop} {x:ExprD} {cs:List Value} (h:Rep w N (exprQ x) cs):∃ i0 s1 s2 s3 p4 n4 c4 i5 p6 n6 c6 i7,cs=[.int .i64 i0,.string s1,.string s2,.string s3,.slice p4 n4 c4,.int .i64 i5,.slice p6 n6 c6,.int .i64 i7]:=by
 obtain⟨y0,y1,y2,y3,y4,y5,y6,y7,rfl⟩:=cells_8 (h.len.trans (len_exprQ x))
 obtain⟨i0,rfl⟩:=h.kind 0 rfl (kind_exprQ x 0 rfl)
 obtain⟨s1,rfl⟩:=h.kind 1 rfl (kind_exprQ x 1 rfl)
 obtain⟨s2,rfl⟩:=h.kind 2 rfl (kind_exprQ x 2 rfl)
 obtain⟨s3,rfl⟩:=h.kind 3 rfl (kind_exprQ x 3 rfl)
 obtain⟨p4,n4,c4,rfl⟩:=h.kind 4 rfl (kind_exprQ x 4 rfl)
 obtain⟨i5,rfl⟩:=h.kind 5 rfl (kind_exprQ x 5 rfl)
 obtain⟨p6,n6,c6,rfl⟩:=h.kind 6 rfl (kind_exprQ x 6 rfl)
 obtain⟨i7,rfl⟩:=h.kind 7 rfl (kind_exprQ x 7 rfl)
 exact⟨_,_,_,_,_,_,_,_,_,_,_,_,rfl⟩
theorem Rep.c_stmtQ {N:Nat→Prop} {x:StmtD} {cs:List Value} (h:Rep w N (stmtQ x) cs):∃ i0 s1 p2 n2 c2 p3 n3 c3 i4 s5 s6 s7 p8 n8 c8 i9 p10 n10 c10 i11 p12 n12 c12 p13 n13 c13 p14 n14 c14 p15 n15 c15 i16,cs=[.int .i64 i0,.string s1,.slice p2 n2 c2,.slice p3 n3 c3,.int .i64 i4,.string s5,.string s6,.string s7,.slice p8 n8 c8,.int .i64 i9,.slice p10 n10 c10,.int .i64 i11,.slice p12 n12 c12,.slice p13 n13 c13,.slice p14 n14 c14,.slice p15 n15 c15,.int .i64 i16]:=by
 obtain⟨y0,y1,y2,y3,y4,y5,y6,y7,y8,y9,y10,y11,y12,y13,y14,y15,y16,rfl⟩:=cells_17 (h.len.trans (len_stmtQ x))
 obtain⟨i0,rfl⟩:=h.kind 0 rfl (kind_stmtQ x 0 rfl)
 obtain⟨s1,rfl⟩:=h.kind 1 rfl (kind_stmtQ x 1 rfl)
 obtain⟨p2,n2,c2,rfl⟩:=h.kind 2 rfl (kind_stmtQ x 2 rfl)
 obtain⟨p3,n3,c3,rfl⟩:=h.kind 3 rfl (kind_stmtQ x 3 rfl)
 obtain⟨i4,rfl⟩:=h.kind 4 rfl (kind_stmtQ x 4 rfl)
 obtain⟨s5,rfl⟩:=h.kind 5 rfl (kind_stmtQ x 5 rfl)
 obtain⟨s6,rfl⟩:=h.kind 6 rfl (kind_stmtQ x 6 rfl)
 obtain⟨s7,rfl⟩:=h.kind 7 rfl (kind_stmtQ x 7 rfl)
 obtain⟨p8,n8,c8,rfl⟩:=h.kind 8 rfl (kind_stmtQ x 8 rfl)
 obtain⟨i9,rfl⟩:=h.kind 9 rfl (kind_stmtQ x 9 rfl)
 obtain⟨p10,n10,c10,rfl⟩:=h.kind 10 rfl (kind_stmtQ x 10 rfl)
 obtain⟨i11,rfl⟩:=h.kind 11 rfl (kind_stmtQ x 11 rfl)
 obtain⟨p12,n12,c12,rfl⟩:=h.kind 12 rfl (kind_stmtQ x 12 rfl)
 obtain⟨p13,n13,c13,rfl⟩:=h.kind 13 rfl (kind_stmtQ x 13 rfl)
 obtain⟨p14,n14,c14,rfl⟩:=h.kind 14 rfl (kind_stmtQ x 14 rfl)
 obtain⟨p15,n15,c15,rfl⟩:=h.kind 15 rfl (kind_stmtQ x 15 rfl)
 obtain⟨i16,rfl⟩:=h.kind 16 rfl (kind_stmtQ x 16 rfl)
 exact⟨_,_,_,_,_,_,_,_,_,_,_,_,_,_,_,_,_,_,_,_,_,_,_,_,_,_,_,_,_,_,_,_,_,rfl⟩
theorem Rep.c_armQ {N:Nat→Prop} {x:ArmD} {cs:List Value} (h:Rep w N (armQ x) cs):∃ s0 p1 n1 c1 p2 n2 c2 i3,cs=[.string s0,.slice p1 n1 c1,.slice p2 n2 c2,.int .i64 i3]:=by
 obtain⟨y0,y1,y2,y3,rfl⟩:=cells_4 (h.len.trans (len_armQ x))
 obtain⟨s0,rfl⟩:=h.kind 0 rfl (kind_armQ x 0 rfl)
 obtain⟨p1,n1,c1,rfl⟩:=h.kind 1 rfl (kind_armQ x 1 rfl)
 obtain⟨p2,n2,c2,rfl⟩:=h.kind 2 rfl (kind_armQ x 2 rfl)
 obtain⟨i3,rfl⟩:=h.kind 3 rfl (kind_armQ x 3 rfl)
 exact⟨_,_,_,_,_,_,_,_,rfl⟩
end Go.Proofs.YtghohohagbbajaaGreatDoor
