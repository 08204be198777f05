/- part of the proof -/
import Derived.Test.YtghohohagbbajaaGreatDoorYBF
import Derived.Test.YtghohohagbbajaaGreatDoorYBG
import Derived.Test.YtghohohagbbajaaGreatDoorYI
import Derived.Test.YtghohohagbbajaaGreatDoorYQ
import Derived.Test.YtghohohagbbajaaGreatDoorYS
set_option linter.unusedVariables false
set_option linter.unusedSimpArgs false
set_option linter.unusedSectionVars false
namespace Go.Proofs.YtghohohagbbajaaGreatDoor
open Lx (Tk)
open Px (Txt TyE VarD DataD TraitD BoundD ImplD ArgD ExprD StmtD ArmD FuncD ModD)
theorem bind_ok {α β:Type} {p:Px.Rd α} {f:α→Px.Rd β} {ts r:List Tk} {b:β} (h:(p >>= f) ts=.ok b r):∃ a s,p ts=.ok a s∧f a s=.ok b r:=by
 change Px.Rd.bind p f ts=_ at h
 unfold Px.Rd.bind at h
 cases hq:p ts with
 | ok a s=>rw[hq] at h;exact⟨a,s,rfl,h⟩
 | bad s=>rw[hq] at h;cases h
theorem pure_ok {α:Type} {a b:α} {ts r:List Tk} (h:(Pure.pure a:Px.Rd α) ts=.ok b r):a=b∧ts=r:=by
 change Px.Res.ok a ts=.ok b r at h
 cases h;exact⟨rfl,rfl⟩
def Ret {α:Type} (P:α→Prop) (p:Px.Rd α):Prop:=∀ ts a r,p ts=.ok a r→P a
theorem Ret.bind {α β:Type} {P:β→Prop} {p:Px.Rd α} {f:α→Px.Rd β} (hf:∀ a,Ret P (f a)):Ret P (p >>= f):=by
 intro ts b r h
 obtain⟨a,s,_,h2⟩:=bind_ok h
 exact hf a s b r h2
theorem Ret.pure {α:Type} {P:α→Prop} {a:α} (h:P a):Ret P (Pure.pure a:Px.Rd α):=by
 intro ts b r hb
 rw[← (pure_ok hb).1];exact h
theorem Ret.ite {α:Type} {P:α→Prop} {c:Prop} [Decidable c] {p q:Px.Rd α} (h:Ret P p) (h':Ret P q):Ret P (if c then p else q):=by
 split
 ·exact h
 ·exact h'
theorem Ret.refuse {α:Type} {P:α→Prop} : Ret P (Px.refuse:Px.Rd α):=fun _ _ _ h=>by cases h
def soff:StmtD→Nat
 | .mk _ _ _ _ _ _ _ _ _ o=>o
theorem name_head {ts s:List Tk} {x:Txt} (h:Px.name ts=.ok x s):∃ t,ts=t :: s∧x=t.text:=by
 cases ts with
 | nil=>cases h
 | cons t r =>
  simp only[Px.name] at h
  split at h
  ·cases h;exact⟨t,rfl,rfl⟩
  ·cases h
section
variable {α:Type} {p:Px.Rd α} {R:Tk→α→Prop} (hs:Suf p) (hp:∀ ts a r,p ts=.ok a r→∃ t∈ts,R t a)
end
def Inc:Nat→List StmtD→Prop
 | _,[]=>True
 | lo,s :: r=>lo<soff s∧Inc (soff s) r
def GoodD (S:List Tk) (d:DataD):Prop:=(∃ t∈S,t.off=d.off∧t.text=[100,97,116,97])∧∀ v∈d.variants,∃ t∈S,t.off=v.off∧t.text=v.name
def GoodT (S:List Tk) (d:TraitD):Prop:=∃ t∈S,t.off=d.off∧t.text=[116,114,97,105,116]
def GoodI (S:List Tk) (d:ImplD):Prop:=∃ t∈S,t.off=d.off∧t.text=[105,109,112,108]
def fargs:FuncD→List ArgD
 | .mk _ _ _ _ a _ _ _=>a
def fbody:FuncD→List StmtD
 | .mk _ _ _ _ _ _ b _=>b
def foff:FuncD→Nat
 | .mk _ _ _ _ _ _ _ o=>o
def GoodF (S:List Tk) (d:FuncD):Prop:=(∃ t∈S,t.off=foff d∧t.text=[102,110])∧(∀ a∈fargs d,∃ t∈S,t.off=a.off∧t.text=a.name)∧(∀ s∈fbody d,∃ t∈S,t.off=soff s)∧Inc (foff d) (fbody d)
structure GoodM (S:List Tk) (M:ModD):Prop where
 d:∀ x∈M.datas,GoodD S x
 t:∀ x∈M.traits,GoodT S x
 i:∀ x∈M.impls,GoodI S x
 f:∀ x∈M.funcs,GoodF S x
end Go.Proofs.YtghohohagbbajaaGreatDoor
namespace Go.Proofs.YtghohohagbbajaaGreatDoor
open Go.RowKit Go.Lib
open Lx (Tk)
open Px (Txt TyE VarD DataD TraitD BoundD ImplD ArgD ExprD StmtD ArmD FuncD ModD)
theorem rows_get {α:Type} {f:α→Q} {w:World} {N:Nat→Prop} {sz:Nat} (hsz:∀ a,(f a).len=sz):∀ (l:List α) (cs:List Value) (i:Nat) (a:α),Rep w N (rowsQ f l) cs→l[i]?=some a→∃ ds,Rep w N (f a) ds∧ds.length=sz∧∀ j,j<sz→cs[i * sz+j]?=ds[j]?
 | [],_,_,_,_,h=>by simp at h
 | b :: l,cs,i,a,hr,h=>by
  rw[rowsQ] at hr
  obtain⟨x,y,rfl,h1,h2⟩:=hr.split
  have hx:x.length=sz:=by rw[h1.len,hsz]
  cases i with
  | zero =>
   simp at h;subst h
   refine⟨x,h1,hx,fun j hj=>?_⟩
   rw[Nat.zero_mul,Nat.zero_add,List.getElem?_append_left (by omega)]
  | succ i =>
   simp at h
   obtain⟨ds,g1,g2,g3⟩:=rows_get hsz l y i a h2 h
   refine⟨ds,g1,g2,fun j hj=>?_⟩
   rw[List.getElem?_append_right (by rw[hx,Nat.succ_mul];omega),hx]
   rw[← g3 j hj]
   congr 1
   rw[Nat.succ_mul];omega
theorem RowV.shape {w:World} {N:Nat→Prop} {E s n:Nat} {q:Q} {v:Value} (h:RowV w N E s n q v):∃ p c,v=.slice p n c:=by
 rcases h with ⟨rfl,rfl,_⟩|⟨g,cap,cur,xs,rfl,_⟩
 ·exact⟨_,_,rfl⟩
 ·exact⟨_,_,rfl⟩
theorem type_shape {w:World} {N:Nat→Prop} {t:TyE} {cs:List Value} (h:Rep w N (typeQ t) cs):∃ s p n c o,cs=[.string s,.slice p n c,.int .i64 o]:=by
 cases t with
 | mk x a o =>
  rw[typeQ_mk,rep_str] at h
  obtain⟨c1,rfl,h⟩:=h
  rw[typesS,rep_sl] at h
  obtain⟨v,c2,rfl,hv,h⟩:=h
  obtain⟨p,c,rfl⟩:=hv.shape
  rw[rep_int] at h
  obtain⟨c3,rfl,h⟩:=h
  rw[rep_nil] at h
  subst h
  exact⟨_,_,_,_,_,rfl⟩
def fcells (x:ByteArray) (p1:Option Addr) (n1 c1:Nat) (p2:Option Addr) (n2 c2:Nat) (p3:Option Addr) (n3 c3:Nat) (p4:Option Addr) (n4 c4:Nat) (y:ByteArray) (p5:Option Addr) (n5 c5:Nat) (o:Int) (p6:Option Addr) (n6 c6:Nat) (q:Int):List Value :=
 [.string x,.slice p1 n1 c1,.slice p2 n2 c2,.slice p3 n3 c3,.slice p4 n4 c4,.string y,.slice p5 n5 c5,.int .i64 o,.slice p6 n6 c6,.int .i64 q]
theorem row_at {α:Type} {f:α→Q} {w:World} {N:Nat→Prop} {E s:Nat} {l:List α} {v:Value} {i:Nat} {a:α} (h:RowV w N E s l.length (rowsQ f l) v) (hsz:∀ a,(f a).len=s) (hi:l[i]?=some a) :
  ∃ g cap ds,v=.slice (some ⟨g,0,none⟩) l.length cap∧g<w.heap.size∧l.length≤cap∧cap≤maxLen∧Rep w N (f a) ds∧∀ j,j<s→w.cell? ⟨g,i * s+j,none⟩=ds[j]?:=by
 have hl:i<l.length:=by
  rcases Nat.lt_or_ge i l.length with h|h
  ·exact h
  ·rw[List.getElem?_eq_none h] at hi;cases hi
 obtain⟨g,cap,xs,rfl,_,hg,hc,hm,_,hx,hr⟩:=h.get (by omega)
 obtain⟨ds,k1,k2,k3⟩:=rows_get hsz l xs i a hr hi
 refine⟨g,cap,ds,rfl,hg,hc,hm,k1,fun j hj=>?_⟩
 have hb:i * s+j<l.length * s:=by
  have h1:i * s+s≤l.length * s:=by rw[← Nat.succ_mul];exact Nat.mul_le_mul_right _ hl
  omega
 rw[hx _ hb,k3 j hj]
end Go.Proofs.YtghohohagbbajaaGreatDoor
namespace Go.Proofs.YtghohohagbbajaaGreatDoor
open Lx (Tk)
open Px (Txt TyE VarD DataD TraitD BoundD ImplD ArgD ExprD StmtD ArmD FuncD ModD)
def Wt {α:Type} (c:Int) (f:α→Int) (p:Px.Rd α):Prop:=∀ ts a r,p ts=.ok a r→f a+30 * (r.length:Int)≤30 * (ts.length:Int)+c
section
variable {α β:Type} {c n:Int} {f:β→Int} {g:α→Int}
theorem Wt.bind {p:Px.Rd α} {q:α→Px.Rd β} (hp:Wt n g p) (hq:∀ a,Wt (c - n+g a) f (q a)):Wt c f (p >>= q):=by
 intro ts b r h
 obtain⟨a,s,h1,h2⟩:=bind_ok h
 have:=hp _ _ _ h1
 have:=hq _ _ _ _ h2
 (try dsimp only);omega
theorem Wt.pure {b:β} (h:f b≤c):Wt c f (Pure.pure b:Px.Rd β):=by
 intro ts a r hb
 obtain⟨rfl,rfl⟩:=pure_ok hb
 (try dsimp only);omega
theorem Wt.ite {k:Prop} [Decidable k] {p q:Px.Rd β} (h:k→Wt c f p) (h':¬ k→Wt c f q):Wt c f (if k then p else q):=by
 split
 ·exact h (by assumption)
 ·exact h' (by assumption)
theorem Wt.refuse:Wt c f (Px.refuse:Px.Rd β):=fun _ _ _ h=>by cases h
theorem Wt.le {p:Px.Rd β} {c':Int} (h:Wt c f p) (hc:c≤c'):Wt c' f p:=fun ts a r e=>by have:=h ts a r e;(try dsimp only);omega
theorem Wt.word:Wt 0 (fun _=>0) Px.wordR:=fun ts a r h=>by cases h;(try dsimp only);omega
theorem Wt.num:Wt 0 (fun _=>0) Px.numR:=fun ts a r h=>by
 cases ts <;> cases h <;> (dsimp only;omega)
theorem Wt.done:Wt 0 (fun _=>0) Px.doneR:=fun ts a r h=>by cases h;(try dsimp only);omega
theorem Wt.off (sz:Nat):Wt 0 (fun _=>0) (Px.offsetR sz):=fun ts a r h=>by
 cases ts <;> cases h <;> simp
theorem Wt.take:Wt 0 (fun _=>0) Px.take:=fun ts a r h=>by
 cases h
 cases ts <;> simp <;> (try dsimp only);omega
theorem Wt.accept {ws:List Txt} (hw:ws.contains []=false):Wt 0 (fun b=>if b=true then 30 else 0) (Px.accept ws):=fun ts a r h=>by
 unfold Px.accept at h
 split at h
 ·rename_i hc
  cases h
  cases ts with
  | nil=>rw[Px.word] at hc;rw[hw] at hc;cases hc
  | cons t r=>simp;(try dsimp only);omega
 ·cases h;simp
theorem Wt.expect {ws:List Txt} (hw:ws.contains []=false):Wt (-30) (fun _=>0) (Px.expect ws):=fun ts a r h=>by
 have:=expect_len h hw
 (try dsimp only);omega
theorem Wt.name:Wt (-29) (fun _=>1) Px.name:=fun ts a r h=>by
 obtain⟨t,rfl,_⟩:=name_head h
 simp;(try dsimp only);omega
theorem Wt.number:Wt (-30) (fun _=>0) Px.number:=fun ts a r h=>by
 cases ts with
 | nil=>cases h
 | cons t s =>
  simp only[Px.number] at h
  split at h
  ·cases h;simp;(try dsimp only);omega
  ·cases h
end
def sumW {α:Type} (g:α→Int) (l:List α):Int:=(l.map g).sum
theorem sumW_snoc {α:Type} (g:α→Int) (l:List α) (a:α):sumW g (l ++ [a])=sumW g l+g a:=by simp[sumW]
theorem sumW_nil {α:Type} (g:α→Int):sumW g []=0:=rfl
theorem sumW_cons {α:Type} (g:α→Int) (a:α) (l:List α):sumW g (a :: l)=g a+sumW g l:=by simp[sumW]
theorem sumW_one {α:Type} (l:List α):sumW (fun _=>1) l=l.length:=by
 induction l with
 | nil=>rfl
 | cons a l ih=>rw[sumW_cons,ih];simp;(try dsimp only);omega
section
variable {α:Type} {n:Int} {g:α→Int} {p:Px.Rd α} (hp:Wt n g p) (hn:n≤0)
include hp hn in
theorem Wt.listT:∀ (k:Nat) (acc:List α),Wt (sumW g acc) (sumW g) (Px.listT p k acc):=by
 intro k
 induction k with
 | zero=>intro acc;exact Wt.refuse
 | succ k ih =>
  intro acc
  rw[Px.listT]
  refine Wt.bind (Wt.accept (by rfl)) fun b=>?_
  refine Wt.ite (fun hb=>?_) (fun hb=>?_)
  ·refine Wt.bind hp fun a=>?_
   refine(ih (acc ++ [a])).le ?_
   rw[sumW_snoc,if_pos hb];(try dsimp only);omega
  ·refine Wt.pure ?_
   rw[if_neg hb];(try dsimp only);omega
include hp hn in
theorem Wt.list:Wt n (sumW g) (Px.list p):=by
 intro ts l r h
 change Px.Rd.bind p (fun a=>Px.listT p (ts.length+1) [a]) ts=_ at h
 unfold Px.Rd.bind at h
 cases hq:p ts with
 | bad s=>rw[hq] at h;cases h
 | ok a s =>
  rw[hq] at h
  have h1:=hp _ _ _ hq
  have h2:=Wt.listT hp hn _ [a] _ _ _ h
  rw[sumW_cons,sumW_nil] at h2
  (try dsimp only);omega
include hp hn in
theorem Wt.opt {o c:Txt} (ho:([o]:List Txt).contains []=false) (hc:([c]:List Txt).contains []=false):Wt 0 (sumW g) (Px.optionalList o p c):=by
 unfold Px.optionalList
 refine Wt.bind (Wt.accept ho) fun b=>?_
 refine Wt.ite (fun hb=>?_) (fun hb=>?_)
 ·refine Wt.bind (Wt.list hp hn) fun l=>Wt.bind (Wt.expect hc) fun _=>Wt.pure ?_
  rw[if_pos hb];(try dsimp only);omega
 ·refine Wt.pure ?_
  rw[if_neg hb,sumW_nil];(try dsimp only);omega
include hp hn in
theorem Wt.pos {o c:Txt} (ho:([o]:List Txt).contains []=false) (hc:([c]:List Txt).contains []=false):Wt (-30) (sumW g) (Px.possiblyEmptyList o p c):=by
 unfold Px.possiblyEmptyList
 refine Wt.bind (Wt.expect ho) fun _=>Wt.bind (Wt.accept hc) fun b=>?_
 refine Wt.ite (fun hb=>?_) (fun hb=>?_)
 ·refine Wt.pure ?_
  rw[if_pos hb,sumW_nil];(try dsimp only);omega
 ·refine Wt.bind (Wt.list hp hn) fun l=>Wt.bind (Wt.expect hc) fun _=>Wt.pure ?_
  rw[if_neg hb];(try dsimp only);omega
include hp hn in
theorem Wt.untilT:∀ (k:Nat) (acc:List α),Wt (sumW g acc) (sumW g) (Px.untilT p k acc):=by
 intro k
 induction k with
 | zero=>intro acc;exact Wt.refuse
 | succ k ih =>
  intro acc
  rw[Px.untilT]
  refine Wt.bind (Wt.accept (by rfl)) fun b=>?_
  refine Wt.ite (fun hb=>?_) (fun hb=>?_)
  ·refine Wt.pure ?_
   rw[if_pos hb];(try dsimp only);omega
  ·refine Wt.bind hp fun a=>?_
   refine(ih (acc ++ [a])).le ?_
   rw[sumW_snoc,if_neg hb];(try dsimp only);omega
include hp hn in
theorem Wt.brace:Wt 0 (sumW g) (Px.untilBrace p):=fun ts l r h=>by
 have:=Wt.untilT hp hn (ts.length+1) [] ts l r h
 rw[sumW_nil] at this
 exact this
include hp hn in
theorem Wt.block {p:Px.Rd StmtD} {g:StmtD→Int} {n:Int} (hp:Wt n g p) (hn:n≤0):Wt (-30) (sumW g) (Px.block p):=by
 unfold Px.block
 refine Wt.bind (Wt.expect (by rfl)) fun _=>?_
 exact(Wt.brace hp hn).le (by omega)
end
section
variable (off:Bool)
def wT (t:TyE):Int:=((fT off t).length:Int)
def wB (b:BoundD):Int:=((fBs off [b]).length:Int)
def wA (a:ArgD):Int:=((fAs off [a]).length:Int)
def wS (s:StmtD):Int:=((fS off s).length:Int)
def wM (s:ArmD):Int:=((fM off s).length:Int)
def wF (s:FuncD):Int:=((fF off s).length:Int)
def wV (v:VarD):Int:=((fVs off [v]).length:Int)
theorem oF_len (n:Nat):((oF off n).length:Int)≤1:=by unfold oF;split <;> simp[nF]
theorem nF_len (n:Int):(nF n).length=1:=rfl
theorem tF_len (l:List Txt):((tF l).length:Int)=1+l.length:=by simp[tF,nF];(try dsimp only);omega
theorem wTs:∀ l:List TyE,((fTs off l).length:Int)=sumW (wT off) l
 | []=>by rw[fTs];rfl
 | t :: r=>by rw[fTs,sumW_cons,List.length_append,← wTs r,wT];(try dsimp only);omega
theorem typesF_len (l:List TyE):((typesF off l).length:Int)=1+sumW (wT off) l:=by rw[typesF,List.length_append,nF_len,← wTs];(try dsimp only);omega
theorem wBs:∀ l:List BoundD,((fBs off l).length:Int)=sumW (wB off) l
 | []=>by rw[fBs];rfl
 | t :: r=>by rw[fBs,sumW_cons,wB,fBs,fBs];simp only[List.length_append,List.length_nil];have:=wBs r;(try dsimp only);omega
theorem boundsF_len (l:List BoundD):((boundsF off l).length:Int)=1+sumW (wB off) l:=by rw[boundsF,List.length_append,nF_len,← wBs];(try dsimp only);omega
theorem wAs:∀ l:List ArgD,((fAs off l).length:Int)=sumW (wA off) l
 | []=>by rw[fAs];rfl
 | t :: r=>by rw[fAs,sumW_cons,wA,fAs,fAs];simp only[List.length_append,List.length_nil];have:=wAs r;(try dsimp only);omega
theorem argsF_len (l:List ArgD):((argsF off l).length:Int)=1+sumW (wA off) l:=by rw[argsF,List.length_append,nF_len,← wAs];(try dsimp only);omega
theorem wSs:∀ l:List StmtD,((fSs off l).length:Int)=sumW (wS off) l
 | []=>by rw[fSs];rfl
 | t :: r=>by rw[fSs,sumW_cons,List.length_append,← wSs r,wS];(try dsimp only);omega
theorem wMs:∀ l:List ArmD,((fMs off l).length:Int)=sumW (wM off) l
 | []=>by rw[fMs];rfl
 | t :: r=>by rw[fMs,sumW_cons,List.length_append,← wMs r,wM];(try dsimp only);omega
theorem wFs:∀ l:List FuncD,((fFs off l).length:Int)=sumW (wF off) l
 | []=>by rw[fFs];rfl
 | t :: r=>by rw[fFs,sumW_cons,List.length_append,← wFs r,wF];(try dsimp only);omega
theorem wVs:∀ l:List VarD,((fVs off l).length:Int)=sumW (wV off) l
 | []=>by rw[fVs];rfl
 | t :: r=>by rw[fVs,sumW_cons,wV,fVs,fVs];simp only[List.length_append,List.length_nil];have:=wVs r;(try dsimp only);omega
theorem wT_mk (x:Txt) (a:List TyE) (o:Nat):wT off (.mk x a o)≤4+sumW (wT off) a:=by
 rw[wT,fT]
 simp only[List.length_append,nF_len,Int.natCast_add,tF_len,wTs]
 have:=oF_len off o
 simp
 (try dsimp only);omega
theorem wB_mk (b:BoundD):wB off b≤4:=by
 rw[wB,fBs,fBs]
 simp only[List.length_append,nF_len,Int.natCast_add,tF_len]
 have:=oF_len off b.off
 simp
 (try dsimp only);omega
theorem wA_mk (b:ArgD):wA off b≤5+wT off b.type:=by
 rw[wA,fAs,fAs]
 simp only[List.length_append,nF_len,Int.natCast_add,tF_len,typesF_len,sumW_cons,sumW_nil]
 have:=oF_len off b.off
 simp
 (try dsimp only);omega
theorem wV_mk (b:VarD):wV off b≤4+sumW (wT off) b.fields:=by
 rw[wV,fVs,fVs]
 simp only[List.length_append,nF_len,Int.natCast_add,tF_len,typesF_len,sumW_cons,sumW_nil]
 have:=oF_len off b.off
 simp
 (try dsimp only);omega
def wE (e:ExprD):Int:=e.names.length+sumW (wT off) e.type
theorem wS_mk (k:Nat) (x:Txt) (l:List Txt) (t:List TyE) (e:ExprD) (th el:List StmtD) (ar:List ArmD) (fn:List FuncD) (o:Nat) :
  wS off (.mk k x l t e th el ar fn o)≤18+l.length+sumW (wT off) t+wE off e+sumW (wS off) th+sumW (wS off) el+sumW (wM off) ar+sumW (wF off) fn:=by
 rw[wS,fS]
 simp only[List.length_append,nF_len,Int.natCast_add,tF_len,typesF_len,wSs,wMs,wFs,wE]
 have:=oF_len off o
 have:=oF_len off e.off
 simp
 (try dsimp only);omega
theorem wM_mk (x:Txt) (l:List Txt) (b:List StmtD) (o:Nat):wM off (.mk x l b o)≤5+l.length+sumW (wS off) b:=by
 rw[wM,fM]
 simp only[List.length_append,nF_len,Int.natCast_add,tF_len,typesF_len,wSs]
 have:=oF_len off o
 simp
 (try dsimp only);omega
theorem wF_mk (x:Txt) (p:List Txt) (bs:List BoundD) (c a:List ArgD) (t:TyE) (b:List StmtD) (o:Nat) :
  wF off (.mk x p bs c a t b o)≤9+p.length+sumW (wB off) bs+sumW (wA off) c+sumW (wA off) a+wT off t+sumW (wS off) b:=by
 rw[wF,fF]
 simp only[List.length_append,nF_len,Int.natCast_add,tF_len,typesF_len,boundsF_len,argsF_len,wSs,sumW_cons,sumW_nil]
 have:=oF_len off o
 simp
 (try dsimp only);omega
variable (sz:Nat)
theorem wt_type:∀ n:Nat,Wt (-25) (wT off) (Px.typeF sz n):=by
 intro n
 induction n with
 | zero=>exact Wt.refuse
 | succ n ih =>
  rw[Px.typeF]
  refine Wt.bind Wt.word fun w=>Wt.bind (Wt.off sz) fun o=>Wt.bind (Wt.accept (by rfl)) fun b=>Wt.ite (fun hb=>?_) (fun hb=>?_)
  ·refine Wt.pure ?_
   have:=wT_mk off w [] o
   rw[if_pos hb];rw[sumW_nil] at this;(try dsimp only);omega
  ·refine Wt.bind (Wt.accept (by rfl)) fun b2=>Wt.ite (fun hb2=>?_) (fun hb2=>?_)
   ·refine Wt.bind (Wt.expect (by rfl)) fun _=>Wt.bind ih fun t=>Wt.bind (Wt.expect (by rfl)) fun _=>Wt.pure ?_
    have:=wT_mk off w [t] o
    rw[if_pos hb2,if_neg hb];rw[sumW_cons,sumW_nil] at this;(try dsimp only);omega
   ·refine Wt.bind (Wt.accept (by rfl)) fun b3=>Wt.ite (fun hb3=>?_) (fun hb3=>?_)
    ·refine Wt.bind ih fun t=>Wt.pure ?_
     have:=wT_mk off w [t] o
     rw[if_pos hb3,if_neg hb2,if_neg hb];rw[sumW_cons,sumW_nil] at this;(try dsimp only);omega
    ·refine Wt.bind Wt.name fun x=>Wt.bind (Wt.opt ih (by decide) (by rfl) (by rfl)) fun a=>Wt.pure ?_
     have:=wT_mk off x a o
     rw[if_neg hb3,if_neg hb2,if_neg hb];(try dsimp only);omega
theorem wt_params:Wt 0 (fun l=>(l.length:Int)) Px.params:=by
 have:=Wt.opt Wt.name (by decide) (o:=[60]) (c:=[62]) (by rfl) (by rfl)
 intro ts l r h
 have h2:=this ts l r h
 rw[sumW_one] at h2
 exact h2
theorem wt_names {o c:Txt} (ho:([o]:List Txt).contains []=false) (hc:([c]:List Txt).contains []=false):Wt 0 (fun l=>(l.length:Int)) (Px.optionalList o Px.name c):=by
 intro ts l r h
 have h2:=Wt.opt Wt.name (by decide) ho hc ts l r h
 rw[sumW_one] at h2
 exact h2
theorem wt_pos {o c:Txt} (ho:([o]:List Txt).contains []=false) (hc:([c]:List Txt).contains []=false):Wt (-30) (fun l=>(l.length:Int)) (Px.possiblyEmptyList o Px.name c):=by
 intro ts l r h
 have h2:=Wt.pos Wt.name (by decide) ho hc ts l r h
 rw[sumW_one] at h2
 exact h2
theorem wt_bound:Wt (-30) (wB off) (Px.bound sz):=by
 unfold Px.bound
 refine Wt.bind (Wt.off sz) fun o=>Wt.bind Wt.name fun p=>Wt.bind (Wt.expect (by rfl)) fun _=>Wt.bind Wt.name fun t=>Wt.pure ?_
 have:=wB_mk off ⟨p,t,o⟩
 (try dsimp only);omega
theorem wt_bounds:Wt 0 (sumW (wB off)) (Px.bounds sz):=by
 unfold Px.bounds
 refine Wt.bind (Wt.accept (by rfl)) fun b=>Wt.ite (fun hb=>?_) (fun hb=>?_)
 ·exact(Wt.list (wt_bound off sz) (by decide)).le (by rw[if_pos hb];omega)
 ·exact Wt.pure (by rw[if_neg hb,sumW_nil];omega)
theorem wt_variant (n:Nat):Wt (-20) (wV off) (Px.variant sz n):=by
 unfold Px.variant
 refine Wt.bind (Wt.off sz) fun o=>Wt.bind Wt.name fun x=>Wt.bind (Wt.opt (wt_type off sz n) (by decide) (by rfl) (by rfl)) fun f=>Wt.pure ?_
 have:=wV_mk off ⟨x,f,o⟩
 simp only at this
 (try dsimp only);omega
theorem wt_arg (n:Nat):Wt (-30) (wA off) (Px.arg sz n):=by
 unfold Px.arg
 refine Wt.bind (Wt.off sz) fun o=>Wt.bind Wt.name fun x=>Wt.bind (Wt.expect (by rfl)) fun _=>Wt.bind (wt_type off sz n) fun t=>Wt.pure ?_
 have:=wA_mk off ⟨x,t,0,o⟩
 simp only at this
 (try dsimp only);omega
theorem wt_kind:Wt (-30) (fun _=>0) Px.captureKind:=by
 unfold Px.captureKind
 refine Wt.bind (Wt.expect (by rfl)) fun w=>Wt.ite (fun _=>Wt.pure (by omega)) (fun _=>Wt.ite (fun _=>Wt.pure (by omega)) (fun _=>Wt.pure (by omega)))
theorem wt_capture (n:Nat):Wt (-30) (wA off) (Px.capture sz n):=by
 unfold Px.capture
 refine Wt.bind (Wt.off sz) fun o=>Wt.bind wt_kind fun k=>Wt.bind (wt_arg off sz n) fun a=>Wt.pure ?_
 have h1:=wA_mk off ⟨a.name,a.type,k,o⟩
 have h2:wT off a.type≤wA off a:=by
  rw[wA,fAs,fAs]
  simp only[List.length_append,nF_len,Int.natCast_add,tF_len,typesF_len,sumW_cons,sumW_nil]
  (try dsimp only);omega
 simp only at h1
 (try dsimp only);omega
theorem wt_signature (n:Nat):Wt (-30) (fun s=>sumW (wA off) s.1+wT off s.2) (Px.signature sz n):=by
 unfold Px.signature
 refine Wt.bind (Wt.pos (wt_arg off sz n) (by decide) (by rfl) (by rfl)) fun a=>Wt.bind (Wt.expect (by rfl)) fun _=>Wt.bind (wt_type off sz n) fun t=>Wt.pure ?_
 simp only
 (try dsimp only);omega
theorem wt_operands:∀ k:Nat,Wt 0 (fun l=>(l.length:Int)) (Px.operands k)
 | 0=>Wt.pure (by simp)
 | k+1=>by
  rw[Px.operands]
  refine Wt.bind (wt_operands k) fun l=>Wt.bind Wt.name fun x=>Wt.pure ?_
  simp;(try dsimp only);omega
theorem wE_0:wE off Px.expr0=0:=rfl
theorem wt_operation (kind k:Nat):Wt 0 (wE off) (Px.operation kind k):=by
 unfold Px.operation
 refine Wt.bind (wt_operands k) fun l=>Wt.pure ?_
 simp only[wE,Px.expr0,sumW_nil];(try dsimp only);omega
theorem wt_reference (a b c:Nat):Wt 0 (wE off) (Px.reference a b c):=by
 unfold Px.reference
 refine Wt.bind (Wt.accept (by rfl)) fun b=>Wt.ite (fun hb=>(wt_operation off _ _).le (by rw[if_pos hb];omega)) (fun hb=>?_)
 refine Wt.bind (Wt.accept (by rfl)) fun b2=>Wt.ite (fun hb2=>(wt_operation off _ _).le (by rw[if_pos hb2,if_neg hb];omega)) (fun hb2=>(wt_operation off _ _).le (by rw[if_neg hb2,if_neg hb];omega))
theorem wt_newValue:Wt 0 (wE off) Px.newValue:=by
 unfold Px.newValue
 refine Wt.bind Wt.name fun x=>Wt.bind (Wt.expect (by rfl)) fun _=>Wt.bind Wt.name fun v=>Wt.bind (wt_names (by rfl) (by rfl)) fun l=>Wt.pure ?_
 simp only[wE,Px.expr0,sumW_nil];(try dsimp only);omega
theorem wt_afterName (x:Txt):Wt 1 (wE off) (Px.afterName x):=by
 unfold Px.afterName
 refine Wt.bind Wt.word fun w=>Wt.bind (Wt.accept (by rfl)) fun b=>Wt.ite (fun hb=>?_) (fun hb=>?_)
 ·refine Wt.bind Wt.name fun y=>Wt.pure ?_
  rw[if_pos hb];simp only[wE,Px.expr0,sumW_nil,List.length_cons,List.length_nil];(try dsimp only);omega
 ·rw[if_neg hb]
  refine Wt.bind (Wt.accept (by rfl)) fun b2=>Wt.ite (fun hb2=>?_) (fun hb2=>?_)
  ·refine Wt.bind Wt.number fun y=>Wt.pure ?_
   rw[if_pos hb2];simp only[wE,Px.expr0,sumW_nil,List.length_cons,List.length_nil];(try dsimp only);omega
  ·rw[if_neg hb2]
   refine Wt.ite (fun _=>?_) (fun _=>?_)
   ·refine Wt.bind (wt_pos (by rfl) (by rfl)) fun l=>Wt.pure ?_
    simp only[wE,Px.expr0,sumW_nil];(try dsimp only);omega
   ·refine Wt.bind (Wt.accept (by rfl)) fun b3=>Wt.ite (fun hb3=>?_) (fun hb3=>?_)
    ·refine Wt.bind Wt.name fun y=>Wt.pure ?_
     rw[if_pos hb3];simp only[wE,Px.expr0,sumW_nil,List.length_cons,List.length_nil];(try dsimp only);omega
    ·rw[if_neg hb3]
     refine Wt.pure ?_
     simp only[wE,Px.expr0,sumW_nil,List.length_cons,List.length_nil];(try dsimp only);omega
theorem wt_unplaced (n:Nat):Wt 0 (wE off) (Px.unplaced sz n):=by
 unfold Px.unplaced
 refine Wt.bind Wt.num fun b=>Wt.ite (fun hb=>?_) (fun hb=>?_)
 ·refine Wt.bind Wt.number fun k=>Wt.pure ?_
  simp only[wE,Px.expr0,sumW_nil,List.length_nil];(try dsimp only);omega
 refine Wt.bind (Wt.accept (by rfl)) fun b=>Wt.ite (fun hb=>?_) (fun hb=>?_)
 ·refine Wt.bind Wt.number fun k=>Wt.pure ?_
  rw[if_pos hb];simp only[wE,Px.expr0,sumW_nil,List.length_nil];(try dsimp only);omega
 rw[if_neg hb]
 refine Wt.bind (Wt.accept (by rfl)) fun b=>Wt.ite (fun hb=>?_) (fun hb=>?_)
 ·exact(wt_newValue off).le (by rw[if_pos hb];omega)
 rw[if_neg hb]
 refine Wt.bind (Wt.accept (by rfl)) fun b=>Wt.ite (fun hb=>?_) (fun hb=>?_)
 ·exact(wt_operation off _ _).le (by rw[if_pos hb];omega)
 rw[if_neg hb]
 refine Wt.bind (Wt.accept (by rfl)) fun b=>Wt.ite (fun hb=>?_) (fun hb=>?_)
 ·exact(wt_operation off _ _).le (by rw[if_pos hb];omega)
 rw[if_neg hb]
 refine Wt.bind (Wt.accept (by rfl)) fun b=>Wt.ite (fun hb=>?_) (fun hb=>?_)
 ·exact(wt_reference off _ _ _).le (by rw[if_pos hb];omega)
 rw[if_neg hb]
 refine Wt.bind (Wt.accept (by rfl)) fun b=>Wt.ite (fun hb=>?_) (fun hb=>?_)
 ·exact(wt_reference off _ _ _).le (by rw[if_pos hb];omega)
 rw[if_neg hb]
 refine Wt.bind (Wt.accept (by rfl)) fun b=>Wt.ite (fun hb=>?_) (fun hb=>?_)
 ·exact(wt_operation off _ _).le (by rw[if_pos hb];omega)
 rw[if_neg hb]
 refine Wt.bind (Wt.accept (by rfl)) fun b=>Wt.ite (fun hb=>?_) (fun hb=>?_)
 ·exact(wt_operation off _ _).le (by rw[if_pos hb];omega)
 rw[if_neg hb]
 refine Wt.bind (Wt.accept (by rfl)) fun b=>Wt.ite (fun hb=>?_) (fun hb=>?_)
 ·exact(wt_operation off _ _).le (by rw[if_pos hb];omega)
 rw[if_neg hb]
 refine Wt.bind (Wt.accept (by rfl)) fun b=>Wt.ite (fun hb=>?_) (fun hb=>?_)
 ·refine Wt.bind (wt_type off sz n) fun t=>Wt.pure ?_
  rw[if_pos hb];simp only[wE,Px.expr0,sumW_nil,sumW_cons,List.length_nil];(try dsimp only);omega
 rw[if_neg hb]
 refine Wt.bind (Wt.accept (by rfl)) fun b=>Wt.ite (fun hb=>?_) (fun hb=>?_)
 ·exact(wt_operation off _ _).le (by rw[if_pos hb];omega)
 rw[if_neg hb]
 refine Wt.bind Wt.name fun x=>?_
 exact(wt_afterName off x).le (by omega)
theorem wt_expr (n:Nat):Wt 0 (wE off) (Px.expr sz n):=by
 unfold Px.expr
 refine Wt.bind (Wt.off sz) fun o=>Wt.bind (wt_unplaced off sz n) fun e=>Wt.pure ?_
 show wE off e≤_
 (try dsimp only);omega
section
variable {S:Px.Rd StmtD} (hS:Wt 0 (wS off) S)
theorem wt_let (n o:Nat):Wt 0 (wS off) (Px.letS sz n o):=by
 unfold Px.letS
 refine Wt.bind Wt.name fun x=>Wt.bind (Wt.accept (by rfl)) fun b=>Wt.ite (fun hb=>?_) (fun hb=>?_)
 ·refine Wt.bind (wt_type off sz n) fun t=>Wt.bind (Wt.expect (by rfl)) fun _=>Wt.bind (wt_expr off sz n) fun e=>Wt.bind (Wt.expect (by rfl)) fun _=>Wt.pure ?_
  refine Int.le_trans (wS_mk off _ _ _ _ _ _ _ _ _ _) ?_
  rw[if_pos hb];simp only[sumW_cons,sumW_nil,List.length_nil];(try dsimp only);omega
 ·refine Wt.bind (Wt.expect (by rfl)) fun _=>Wt.bind (wt_expr off sz n) fun e=>Wt.bind (Wt.expect (by rfl)) fun _=>Wt.pure ?_
  refine Int.le_trans (wS_mk off _ _ _ _ _ _ _ _ _ _) ?_
  rw[if_neg hb];simp only[sumW_cons,sumW_nil,List.length_nil];(try dsimp only);omega
theorem wt_set (n o:Nat):Wt 0 (wS off) (Px.setS sz n o):=by
 unfold Px.setS
 refine Wt.bind Wt.name fun x=>Wt.bind (Wt.expect (by rfl)) fun _=>Wt.bind (wt_expr off sz n) fun e=>Wt.bind (Wt.expect (by rfl)) fun _=>Wt.pure ?_
 refine Int.le_trans (wS_mk off _ _ _ _ _ _ _ _ _ _) ?_
 simp only[sumW_cons,sumW_nil,List.length_nil];(try dsimp only);omega
theorem wt_store (o:Nat):Wt 0 (wS off) (Px.storeS o):=by
 unfold Px.storeS
 refine Wt.bind Wt.name fun x=>Wt.bind (Wt.expect (by rfl)) fun _=>Wt.bind Wt.name fun y=>Wt.bind (Wt.expect (by rfl)) fun _=>Wt.pure ?_
 refine Int.le_trans (wS_mk off _ _ _ _ _ _ _ _ _ _) ?_
 simp only[sumW_cons,sumW_nil,List.length_nil,List.length_cons,wE_0];(try dsimp only);omega
theorem wt_named (k o:Nat):Wt 0 (wS off) (Px.namedS k o):=by
 unfold Px.namedS
 refine Wt.bind Wt.name fun x=>Wt.bind (Wt.expect (by rfl)) fun _=>Wt.pure ?_
 refine Int.le_trans (wS_mk off _ _ _ _ _ _ _ _ _ _) ?_
 simp only[sumW_cons,sumW_nil,List.length_nil,List.length_cons,wE_0];(try dsimp only);omega
theorem wt_bare (o:Nat):Wt 0 (wS off) (Px.bareS o):=by
 unfold Px.bareS
 refine Wt.bind (Wt.expect (by rfl)) fun _=>Wt.pure ?_
 refine Int.le_trans (wS_mk off _ _ _ _ _ _ _ _ _ _) ?_
 simp only[sumW_cons,sumW_nil,List.length_nil,List.length_cons,wE_0];(try dsimp only);omega
theorem wt_send (o:Nat):Wt 0 (wS off) (Px.sendS o):=by
 unfold Px.sendS
 refine Wt.bind Wt.name fun x=>Wt.bind Wt.name fun y=>Wt.bind (Wt.expect (by rfl)) fun _=>Wt.pure ?_
 refine Int.le_trans (wS_mk off _ _ _ _ _ _ _ _ _ _) ?_
 simp only[sumW_cons,sumW_nil,List.length_nil,List.length_cons,wE_0];(try dsimp only);omega
theorem wt_spawn (o:Nat):Wt 0 (wS off) (Px.spawnS o):=by
 unfold Px.spawnS
 refine Wt.bind Wt.name fun x=>Wt.bind (wt_pos (by rfl) (by rfl)) fun y=>Wt.bind (Wt.expect (by rfl)) fun _=>Wt.pure ?_
 refine Int.le_trans (wS_mk off _ _ _ _ _ _ _ _ _ _) ?_
 simp only[sumW_cons,sumW_nil,List.length_nil,List.length_cons,wE_0];(try dsimp only);omega
include hS
theorem wt_choice (o:Nat):Wt 0 (wS off) (Px.choiceS S o):=by
 unfold Px.choiceS
 refine Wt.bind Wt.name fun x=>Wt.bind (Wt.block hS (by decide) hS (by decide)) fun t=>Wt.bind (Wt.accept (by rfl)) fun b=>Wt.ite (fun hb=>?_) (fun hb=>?_)
 ·refine Wt.bind (Wt.block hS (by decide) hS (by decide)) fun e=>Wt.pure ?_
  refine Int.le_trans (wS_mk off _ _ _ _ _ _ _ _ _ _) ?_
  rw[if_pos hb];simp only[sumW_cons,sumW_nil,List.length_nil,List.length_cons,wE_0];(try dsimp only);omega
 ·refine Wt.pure ?_
  refine Int.le_trans (wS_mk off _ _ _ _ _ _ _ _ _ _) ?_
  rw[if_neg hb];simp only[sumW_cons,sumW_nil,List.length_nil,List.length_cons,wE_0];(try dsimp only);omega
theorem wt_loop (o:Nat):Wt 0 (wS off) (Px.loopS S o):=by
 unfold Px.loopS
 refine Wt.bind Wt.name fun x=>Wt.bind (Wt.block hS (by decide) hS (by decide)) fun t=>Wt.pure ?_
 refine Int.le_trans (wS_mk off _ _ _ _ _ _ _ _ _ _) ?_
 simp only[sumW_cons,sumW_nil,List.length_nil,List.length_cons,wE_0];(try dsimp only);omega
theorem wt_arm:Wt (-30) (wM off) (Px.arm sz S):=by
 unfold Px.arm
 refine Wt.bind (Wt.off sz) fun o=>Wt.bind Wt.name fun x=>Wt.bind (wt_names (by rfl) (by rfl)) fun l=>Wt.bind (Wt.block hS (by decide) hS (by decide)) fun b=>Wt.pure ?_
 refine Int.le_trans (wM_mk off _ _ _ _) ?_
 (try dsimp only);omega
theorem wt_match (o:Nat):Wt 0 (wS off) (Px.matchS sz S o):=by
 unfold Px.matchS
 refine Wt.bind Wt.name fun x=>Wt.bind (Wt.expect (by rfl)) fun _=>Wt.bind (wt_arm off sz hS) fun a=>Wt.bind (Wt.brace (wt_arm off sz hS) (by decide)) fun l=>Wt.pure ?_
 refine Int.le_trans (wS_mk off _ _ _ _ _ _ _ _ _ _) ?_
 simp only[sumW_cons,sumW_nil,List.length_nil,List.length_cons,wE_0];(try dsimp only);omega
theorem wt_localF (n o:Nat):Wt (-30) (wF off) (Px.localFunction sz n S o):=by
 unfold Px.localFunction
 refine Wt.bind Wt.name fun x=>Wt.bind (Wt.pos (wt_capture off sz n) (by decide) (by rfl) (by rfl)) fun c=>Wt.bind (wt_signature off sz n) fun s=>Wt.bind (Wt.block hS (by decide) hS (by decide)) fun b=>Wt.pure ?_
 refine Int.le_trans (wF_mk off _ _ _ _ _ _ _ _) ?_
 simp only[sumW_cons,sumW_nil,List.length_nil,List.length_cons];(try dsimp only);omega
theorem wt_localS (n o:Nat):Wt 0 (wS off) (Px.localS sz n S o):=by
 unfold Px.localS
 refine Wt.bind (wt_localF off sz hS n o) fun f=>Wt.pure ?_
 refine Int.le_trans (wS_mk off _ _ _ _ _ _ _ _ _ _) ?_
 simp only[sumW_cons,sumW_nil,List.length_nil,List.length_cons,wE_0];(try dsimp only);omega
theorem wt_afterForm (n k o:Nat):Wt 0 (wS off) (Px.afterForm sz n S k o):=by
 unfold Px.afterForm
 repeat' (first|exact wt_let off sz n o|exact wt_store off o|exact wt_choice off hS o|exact wt_loop off hS o|exact wt_match off sz hS o|exact wt_bare off o|exact wt_send off o|exact wt_spawn off o|exact wt_localS off sz hS n o|exact wt_named off k o|refine Wt.ite (fun _=>?_) (fun _=>?_))
end
theorem wt_stmt (n:Nat):∀ m:Nat,Wt 0 (wS off) (Px.stmtF sz n m):=by
 intro m
 induction m with
 | zero=>exact Wt.refuse
 | succ m ih =>
  rw[Px.stmtF]
  refine Wt.bind (Wt.off sz) fun o=>Wt.bind Wt.word fun w=>Wt.ite (fun _=>?_) (fun _=>?_)
  ·exact(wt_set off sz n o).le (by omega)
  ·refine Wt.bind Wt.take fun _=>?_
   exact(wt_afterForm off sz ih n _ o).le (by omega)
theorem wt_function (n o:Nat):Wt 0 (wF off) (Px.function sz n o):=by
 unfold Px.function
 refine Wt.bind Wt.name fun x=>Wt.bind wt_params fun p=>Wt.bind (wt_signature off sz n) fun s=>Wt.bind (wt_bounds off sz) fun b=>Wt.bind (Wt.block (wt_stmt off sz n n) (by decide) (wt_stmt off sz n n) (by decide)) fun l=>Wt.pure ?_
 refine Int.le_trans (wF_mk off _ _ _ _ _ _ _ _) ?_
 simp only[sumW_cons,sumW_nil,List.length_nil,List.length_cons];(try dsimp only);omega
def wD (d:DataD):Int:=((fDs off [d]).length:Int)
def wR (d:TraitD):Int:=((fRs off [d]).length:Int)
def wI (d:ImplD):Int:=((fIs off [d]).length:Int)
theorem wDs:∀ l:List DataD,((fDs off l).length:Int)=sumW (wD off) l
 | []=>by rw[fDs];rfl
 | t :: r=>by rw[fDs,sumW_cons,wD,fDs,fDs];simp only[List.length_append,List.length_nil];have:=wDs r;(try dsimp only);omega
theorem wRs:∀ l:List TraitD,((fRs off l).length:Int)=sumW (wR off) l
 | []=>by rw[fRs];rfl
 | t :: r=>by rw[fRs,sumW_cons,wR,fRs,fRs];simp only[List.length_append,List.length_nil];have:=wRs r;(try dsimp only);omega
theorem wIs:∀ l:List ImplD,((fIs off l).length:Int)=sumW (wI off) l
 | []=>by rw[fIs];rfl
 | t :: r=>by rw[fIs,sumW_cons,wI,fIs,fIs];simp only[List.length_append,List.length_nil];have:=wIs r;(try dsimp only);omega
theorem wD_mk (d:DataD):wD off d≤6+d.params.length+sumW (wV off) d.variants:=by
 rw[wD,fDs,fDs]
 simp only[List.length_append,nF_len,Int.natCast_add,tF_len,wVs]
 have:=oF_len off d.off
 simp
 (try dsimp only);omega
theorem wR_mk (d:TraitD):wR off d≤3:=by
 rw[wR,fRs,fRs]
 simp only[List.length_append,nF_len,Int.natCast_add,tF_len]
 have:=oF_len off d.off
 simp
 (try dsimp only);omega
theorem wI_mk (d:ImplD):wI off d≤7+d.params.length+sumW (wB off) d.bounds+wT off d.type:=by
 rw[wI,fIs,fIs]
 simp only[List.length_append,nF_len,Int.natCast_add,tF_len,boundsF_len,typesF_len,sumW_cons,sumW_nil]
 have:=oF_len off d.off
 simp
 (try dsimp only);omega
theorem wt_drop:Wt 0 (fun _=>0) Px.dropAction:=by
 unfold Px.dropAction
 refine Wt.bind (Wt.accept (by rfl)) fun b=>Wt.ite (fun hb=>Wt.pure (by rw[if_pos hb];omega)) (fun hb=>?_)
 rw[if_neg hb]
 refine Wt.bind Wt.number fun k=>Wt.pure (by omega)
theorem wt_data (n o:Nat):Wt 0 (wD off) (Px.data sz n o):=by
 unfold Px.data
 refine Wt.bind Wt.name fun x=>Wt.bind wt_params fun p=>Wt.bind (Wt.expect (by rfl)) fun _=>Wt.bind (Wt.list (wt_variant off sz n) (by decide)) fun v=>Wt.bind (Wt.expect (by rfl)) fun _=>Wt.bind (Wt.accept (by rfl)) fun b=>Wt.ite (fun hb=>?_) (fun hb=>?_)
 ·rw[if_pos hb]
  refine Wt.bind wt_drop fun d=>Wt.bind (Wt.expect (by rfl)) fun _=>Wt.pure ?_
  refine Int.le_trans (wD_mk off _) ?_
  simp only
  (try dsimp only);omega
 ·rw[if_neg hb]
  refine Wt.bind (Wt.expect (by rfl)) fun _=>Wt.pure ?_
  refine Int.le_trans (wD_mk off _) ?_
  simp only
  (try dsimp only);omega
theorem wt_trait (o:Nat):Wt 0 (wR off) (Px.trait o):=by
 unfold Px.trait
 refine Wt.bind Wt.name fun x=>Wt.bind (Wt.expect (by rfl)) fun _=>Wt.pure ?_
 refine Int.le_trans (wR_mk off _) ?_
 (try dsimp only);omega
theorem wt_impl (n o:Nat):Wt 0 (wI off) (Px.implementation sz n o):=by
 unfold Px.implementation
 refine Wt.bind wt_params fun p=>Wt.bind Wt.name fun t=>Wt.bind (Wt.expect (by rfl)) fun _=>Wt.bind (wt_type off sz n) fun ty=>Wt.bind (wt_bounds off sz) fun b=>Wt.bind (Wt.expect (by rfl)) fun _=>Wt.bind Wt.name fun f=>Wt.bind (Wt.expect (by rfl)) fun _=>Wt.pure ?_
 refine Int.le_trans (wI_mk off _) ?_
 simp only
 (try dsimp only);omega
def wMod (m:ModD):Int:=((factsM off m).length:Int)
theorem wMod_mk (m:ModD):wMod off m=7+m.uses.length+sumW (wD off) m.datas+sumW (wR off) m.traits+sumW (wI off) m.impls+sumW (wF off) m.funcs:=by
 rw[wMod,factsM]
 simp only[List.length_append,nF_len,Int.natCast_add,tF_len,wDs,wRs,wIs,wFs]
 simp
 (try dsimp only);omega
theorem wt_item (n:Nat) (m:ModD):Wt (wMod off m) (wMod off) (Px.item sz n m):=by
 unfold Px.item
 refine Wt.bind (Wt.off sz) fun o=>Wt.bind (Wt.expect (by rfl)) fun w=>?_
 refine Wt.ite (fun _=>Wt.bind (wt_data off sz n o) fun d=>Wt.pure ?_) (fun _=>Wt.ite (fun _=>Wt.bind (wt_trait off o) fun d=>Wt.pure ?_) (fun _=>Wt.ite (fun _=>Wt.bind (wt_impl off sz n o) fun d=>Wt.pure ?_) (fun _=>Wt.bind (wt_function off sz n o) fun d=>Wt.pure ?_)))
 all_goals
  simp only[wMod_mk,sumW_snoc]
  (try dsimp only);omega
theorem wt_items (n:Nat):∀ (k:Nat) (m:ModD),Wt (wMod off m) (wMod off) (Px.itemsF sz n k m):=by
 intro k
 induction k with
 | zero=>intro m;exact Wt.refuse
 | succ k ih =>
  intro m
  rw[Px.itemsF]
  refine Wt.bind Wt.done fun b=>Wt.ite (fun _=>Wt.pure (by omega)) (fun _=>?_)
  refine Wt.bind (wt_item off sz n m) fun m'=>?_
  exact(ih m').le (by omega)
theorem wt_uses:∀ (k:Nat) (l:List Txt),Wt l.length (fun l=>(l.length:Int)) (Px.usesF k l):=by
 intro k
 induction k with
 | zero=>intro l;exact Wt.refuse
 | succ k ih =>
  intro l
  rw[Px.usesF]
  refine Wt.bind (Wt.accept (by rfl)) fun b=>Wt.ite (fun hb=>?_) (fun hb=>?_)
  ·rw[if_pos hb]
   refine Wt.bind Wt.name fun x=>Wt.bind (Wt.expect (by rfl)) fun _=>?_
   exact(ih _).le (by simp;omega)
  ·rw[if_neg hb]
   exact Wt.pure (by omega)
theorem wt_module (n:Nat):Wt 0 (wMod off) (Px.module sz n):=by
 unfold Px.module
 refine Wt.bind (Wt.expect (by rfl)) fun _=>Wt.bind Wt.name fun x=>Wt.bind (Wt.expect (by rfl)) fun _=>Wt.bind (wt_uses n []) fun u=>?_
 refine(wt_items off sz n n _).le ?_
 rw[wMod_mk]
 simp only[sumW_nil,List.length_nil]
 (try dsimp only);omega
theorem facts_few {sz n:Nat} {ts r:List Tk} {M:ModD} (h:Px.module sz n ts=.ok M r):(factsM off M).length≤30 * ts.length:=by
 have h1:=wt_module off sz n _ _ _ h
 unfold wMod at h1
 (try dsimp only);omega
end
end Go.Proofs.YtghohohagbbajaaGreatDoor
