/- part of the proof -/
import Derived.Test.YtghohohagbbajaaGreatDoorYL
import Derived.Test.YtghohohagbbajaaGreatDoorYK
import Derived.OwnWalk
set_option linter.unusedVariables false
set_option linter.unusedSimpArgs false
set_option linter.unusedSectionVars false
namespace Go.Proofs.YtghohohagbbajaaGreatDoor
open Go.RowKit Go.Lib
open Lx (Tk)
open Px (Txt TyE VarD DataD TraitD BoundD ImplD ArgD ExprD StmtD ArmD FuncD ModD)
def rowsQ {α:Type} (f:α→Q):List α→Q
 | []=>.nil
 | a :: l=>(f a).app (rowsQ f l)
theorem rowsQ_snoc {α:Type} (f:α→Q) (a:α):∀ l:List α,rowsQ f (l ++ [a])=(rowsQ f l).app (f a)
 | []=>by simp[rowsQ,Q.app_nil,Q.app]
 | b :: l=>by rw[List.cons_append,rowsQ,rowsQ,rowsQ_snoc f a l,Q.app_app]
theorem rowsQ_one {α:Type} (f:α→Q) (a:α):rowsQ f [a]=f a:=by simp[rowsQ,Q.app_nil]
def strQ (t:Txt):Q:=.str t .nil
def strsQ (l:List Txt) (r:Q):Q:=.sl 9 1 l.length (rowsQ strQ l) r
mutual
def typeQ:TyE→Q
 | .mk x a o=>.str x (.sl 39 3 a.length (typesQ a) (.int o .nil))
def typesQ:List TyE→Q
 | []=>.nil
 | t :: r=>(typeQ t).app (typesQ r)
end
theorem typesQ_eq:∀ l:List TyE,typesQ l=rowsQ typeQ l
 | []=>by rw[typesQ,rowsQ]
 | t :: r=>by rw[typesQ,rowsQ,typesQ_eq r]
def typesS (l:List TyE) (r:Q):Q:=.sl 39 3 l.length (rowsQ typeQ l) r
theorem typeQ_mk (x:Txt) (a:List TyE) (o:Nat):typeQ (.mk x a o)=.str x (typesS a (.int o .nil)):=by rw[typeQ,typesS,typesQ_eq]
def varQ (v:VarD):Q:=.str v.name (typesS v.fields (.int v.off .nil))
def dataQ (d:DataD):Q:=.str d.name (strsQ d.params (.sl 47 3 d.variants.length (rowsQ varQ d.variants) (.int d.drop (.int d.off .nil))))
def traitQ (t:TraitD):Q:=.str t.name (.int t.off .nil)
def boundQ (b:BoundD):Q:=.str b.param (.str b.trait (.int b.off .nil))
def boundsS (l:List BoundD) (r:Q):Q:=.sl 131 3 l.length (rowsQ boundQ l) r
def implQ (i:ImplD):Q:=.str i.trait (strsQ i.params (boundsS i.bounds ((typeQ i.type).app (.str i.func (.int i.off .nil)))))
def argQ (a:ArgD):Q:=.str a.name ((typeQ a.type).app (.int a.capture (.int a.off .nil)))
def argsS (l:List ArgD) (r:Q):Q:=.sl 155 6 l.length (rowsQ argQ l) r
def exprQ (e:ExprD):Q:=.int e.kind (.str e.op (.str e.name (.str e.variant (strsQ e.names (.int e.num (typesS e.type (.int e.off .nil)))))))
mutual
def stmtQ:StmtD→Q
 | .mk k x l t e th el ar fn o=>.int k (.str x (strsQ l (typesS t ((exprQ e).app (.sl 52 17 th.length (stmtsQ th) (.sl 52 17 el.length (stmtsQ el) (.sl 138 4 ar.length (armsQ ar) (.sl 42 10 fn.length (funcsQ fn) (.int o .nil)))))))))
def stmtsQ:List StmtD→Q
 | []=>.nil
 | s :: r=>(stmtQ s).app (stmtsQ r)
def armQ:ArmD→Q
 | .mk x l b o=>.str x (strsQ l (.sl 52 17 b.length (stmtsQ b) (.int o .nil)))
def armsQ:List ArmD→Q
 | []=>.nil
 | s :: r=>(armQ s).app (armsQ r)
def funcQ:FuncD→Q
 | .mk x p bs c a t b o=>.str x (strsQ p (boundsS bs (argsS c (argsS a ((typeQ t).app (.sl 52 17 b.length (stmtsQ b) (.int o .nil)))))))
def funcsQ:List FuncD→Q
 | []=>.nil
 | s :: r=>(funcQ s).app (funcsQ r)
end
theorem stmtsQ_eq:∀ l:List StmtD,stmtsQ l=rowsQ stmtQ l
 | []=>by rw[stmtsQ,rowsQ]
 | t :: r=>by rw[stmtsQ,rowsQ,stmtsQ_eq r]
theorem armsQ_eq:∀ l:List ArmD,armsQ l=rowsQ armQ l
 | []=>by rw[armsQ,rowsQ]
 | t :: r=>by rw[armsQ,rowsQ,armsQ_eq r]
theorem funcsQ_eq:∀ l:List FuncD,funcsQ l=rowsQ funcQ l
 | []=>by rw[funcsQ,rowsQ]
 | t :: r=>by rw[funcsQ,rowsQ,funcsQ_eq r]
def stmtsS (l:List StmtD) (r:Q):Q:=.sl 52 17 l.length (rowsQ stmtQ l) r
def armsS (l:List ArmD) (r:Q):Q:=.sl 138 4 l.length (rowsQ armQ l) r
def funcsS (l:List FuncD) (r:Q):Q:=.sl 42 10 l.length (rowsQ funcQ l) r
theorem stmtQ_mk (k:Nat) (x:Txt) (l:List Txt) (t:List TyE) (e:ExprD) (th el:List StmtD) (ar:List ArmD) (fn:List FuncD) (o:Nat) :
  stmtQ (.mk k x l t e th el ar fn o)=.int k (.str x (strsQ l (typesS t ((exprQ e).app (stmtsS th (stmtsS el (armsS ar (funcsS fn (.int o .nil))))))))):=by
 rw[stmtQ,stmtsS,stmtsS,armsS,funcsS,stmtsQ_eq,stmtsQ_eq,armsQ_eq,funcsQ_eq]
theorem armQ_mk (x:Txt) (l:List Txt) (b:List StmtD) (o:Nat):armQ (.mk x l b o)=.str x (strsQ l (stmtsS b (.int o .nil))):=by rw[armQ,stmtsS,stmtsQ_eq]
theorem funcQ_mk (x:Txt) (p:List Txt) (bs:List BoundD) (c a:List ArgD) (t:TyE) (b:List StmtD) (o:Nat) :
  funcQ (.mk x p bs c a t b o)=.str x (strsQ p (boundsS bs (argsS c (argsS a ((typeQ t).app (stmtsS b (.int o .nil))))))):=by rw[funcQ,stmtsS,stmtsQ_eq]
def modQ (m:ModD):Q:=.str m.name (strsQ m.uses (.sl 45 5 m.datas.length (rowsQ dataQ m.datas) (.sl 89 2 m.traits.length (rowsQ traitQ m.traits)
 (.sl 91 8 m.impls.length (rowsQ implQ m.impls) (.sl 42 10 m.funcs.length (rowsQ funcQ m.funcs) .nil)))))
def okAgg {α:Type} (f:α→Q):Nat→α→World→Value→Prop:=fun B a w v=>∃ cs,v=.agg cs.toArray∧Rep w (fun k=>B≤k) (f a) cs
def okRow {α:Type} (E s:Nat) (f:α→Q):Nat→List α→World→Value→Prop:=fun B l w v=>RowV w (fun k=>B≤k) E s l.length (rowsQ f l) v
def tokLen (c:Ctx) (w:World):Nat:=match w.cell? ⟨c.R,0,none⟩ with|some (.slice _ n _)=>n|_=>0
theorem Inv.tokLen {c:Ctx} {ts:List Tk} {w:World} (h:Inv c ts w):tokLen c w=ts.length:=by
 obtain⟨a,cap,h0,_⟩:=h.cells
 unfold Go.Proofs.YtghohohagbbajaaGreatDoor.tokLen
 rw[h0]
theorem RP.accept {c:Ctx} {w w':World} {ws:List Txt} {ts:List Tk} {e:Ending} (h:RP c w okBool (Px.accept ws ts) e w') :
  (Hid (Px.accept ws ts=.ok true ts.tail)∧ts.tail.length+1≤ts.length+(if ts=[] then 1 else 0)∧Fr [c.R] w w'∧Inv c ts.tail w'∧e=.returned (.bool true)) ∨
  (Hid (Px.accept ws ts=.ok false ts)∧Fr [c.R] w w'∧Inv c ts w'∧e=.returned (.bool false)):=by
 obtain⟨h1,h2⟩:=h
 by_cases hc:ws.contains (Px.word ts)=true
 ·have hs:Px.accept ws ts=.ok true ts.tail:=by simp only[Px.accept];rw[if_pos hc]
  rw[hs] at h2
  obtain⟨hi,v,rfl,rfl⟩:=h2
  refine .inl ⟨hid hs,?_,h1,hi,rfl⟩
  cases ts <;> simp
 ·have hs:Px.accept ws ts=.ok false ts:=by simp only[Px.accept];rw[if_neg hc]
  rw[hs] at h2
  obtain⟨hi,v,rfl,rfl⟩:=h2
  exact .inr ⟨hid hs,h1,hi,rfl⟩
theorem accept_pos {ws:List Txt} {ts:List Tk} (h:Px.accept ws ts=.ok true ts.tail) (hne:ws.contains []=false):ts.tail.length+1=ts.length:=by
 cases ts with
 | nil=>simp only[Px.accept,Px.word,hne] at h;cases h
 | cons t r=>simp
theorem Inv.grown {c:Ctx} {ts ts0:List Tk} {w w' w0:World} {row:Option Nat} (h:Inv c ts w) (h0:Inv c ts0 w0) (hg:w.grownBy w' row) (hr:∀ k,row=some k→w0.heap.size≤k):Inv c ts w' :=
 h.same hg.size (fun k hk=>hg.block k (by have:=h.lt;rcases hk with rfl|rfl|rfl|rfl <;> omega) (fun e=>by have:=hr k e.symm;have:=h0.lt;rcases hk with rfl|rfl|rfl|rfl <;> omega))
theorem Fr.grown {X:List Nat} {a w w':World} {row:Option Nat} (h:Fr X a w) (hg:w.grownBy w' row) (hr:∀ k,row=some k→a.heap.size≤k):Fr X a w' :=
 ⟨hg.os.trans h.os,hg.tape.trans h.tape,hg.output.trans h.output,Nat.le_trans h.size hg.size,fun k hk hx=>(hg.block k (Nat.lt_of_lt_of_le hk h.size) (fun e=>by have:=hr k e.symm;omega)).trans (h.block k hk hx)⟩
section
variable {α:Type} {read:Px.Rd α} {k:Nat} {acc:List α} {ts r r':List Tk} {b:α}
theorem listT_no (h:Px.accept [[44]] ts=.ok false r):Px.listT read (k+1) acc ts=.ok acc r:=by
 simp only[Px.listT,bind,Px.Rd.bind,h,Bool.false_eq_true,if_false];rfl
theorem listT_bad (h:Px.accept [[44]] ts=.ok true r) (h':read r=.bad r'):Px.listT read (k+1) acc ts=.bad r':=by
 simp only[Px.listT,bind,Px.Rd.bind,h,if_true,h']
theorem listT_ok (h:Px.accept [[44]] ts=.ok true r) (h':read r=.ok b r'):Px.listT read (k+1) acc ts=Px.listT read k (acc ++ [b]) r':=by
 simp only[Px.listT,bind,Px.Rd.bind,h,if_true,h']
theorem untilT_no (h:Px.accept [[125]] ts=.ok true r):Px.untilT read (k+1) acc ts=.ok acc r:=by
 simp only[Px.untilT,bind,Px.Rd.bind,h,if_true];rfl
theorem untilT_bad (h:Px.accept [[125]] ts=.ok false r) (h':read r=.bad r'):Px.untilT read (k+1) acc ts=.bad r':=by
 simp only[Px.untilT,bind,Px.Rd.bind,h,Bool.false_eq_true,if_false,h']
theorem untilT_ok (h:Px.accept [[125]] ts=.ok false r) (h':read r=.ok b r'):Px.untilT read (k+1) acc ts=Px.untilT read k (acc ++ [b]) r':=by
 simp only[Px.untilT,bind,Px.Rd.bind,h,Bool.false_eq_true,if_false,h']
end
def Enters (F:Nat):Prop:=∀ (args:Array Value) (w:World),(callFunc F args).run Tryz.prog w=.ok (.enter F args) w
def Reads {α:Type} (c:Ctx) (F m:Nat) (okv:Nat→α→World→Value→Prop) (read:Px.Rd α):Prop :=
 ∀ ts w,Inv c ts w→ts.length<m→Calls Tryz.prog F #[.pointer (some ⟨c.R,0,none⟩)] w (RP c w okv (read ts))
def Shr {α:Type} (p:Px.Rd α):Prop:=∀ ts,match p ts with
 | .ok _ r=>r.length≤ts.length
 | .bad r=>r.length≤ts.length
theorem Shr.ok {α:Type} {p:Px.Rd α} (h:Shr p) {ts r:List Tk} {a:α} (e:p ts=.ok a r):r.length≤ts.length:=by
 have:=h ts;rw[e] at this;exact this
def Q.len:Q→Nat
 | .nil=>0
 | .int _ r=>r.len+1
 | .str _ r=>r.len+1
 | .sl _ _ _ _ r=>r.len+1
theorem Rep.len {w:World} {N:Nat→Prop} : ∀ {q:Q} {cs:List Value},Rep w N q cs→cs.length=q.len
 | .nil,cs,h=>by rw[Rep] at h;subst h;rfl
 | .int n r,cs,h=>by rw[Rep] at h;obtain⟨c,rfl,h⟩:=h;rw[List.length_cons,Q.len,Rep.len h]
 | .str n r,cs,h=>by rw[Rep] at h;obtain⟨c,rfl,h⟩:=h;rw[List.length_cons,Q.len,Rep.len h]
 | .sl E s n q r,cs,h=>by rw[Rep] at h;obtain⟨v,c,rfl,_,h⟩:=h;rw[List.length_cons,Q.len,Rep.len h]
theorem Q.len_app:∀ (x y:Q),(x.app y).len=x.len+y.len
 | .nil,y=>by rw[Q.app,Q.len];omega
 | .int n r,y=>by rw[Q.app,Q.len,Q.len,Q.len_app r];omega
 | .str n r,y=>by rw[Q.app,Q.len,Q.len,Q.len_app r];omega
 | .sl E s n q r,y=>by rw[Q.app,Q.len,Q.len,Q.len_app r];omega
theorem len_typeQ (t:TyE):(typeQ t).len=3:=by cases t;rw[typeQ_mk];rfl
theorem len_exprQ (e:ExprD):(exprQ e).len=8:=rfl
theorem len_varQ (x:VarD):(varQ x).len=3:=rfl
theorem len_boundQ (x:BoundD):(boundQ x).len=3:=rfl
theorem len_argQ (x:ArgD):(argQ x).len=6:=by simp only[argQ,strsQ,boundsS,Q.len,Q.len_app,len_typeQ]
theorem len_stmtQ (x:StmtD):(stmtQ x).len=17:=by cases x;simp only[stmtQ_mk,strsQ,typesS,boundsS,argsS,stmtsS,armsS,funcsS,Q.len,Q.len_app,len_typeQ,len_exprQ]
theorem len_armQ (x:ArmD):(armQ x).len=4:=by cases x;simp only[armQ_mk,strsQ,typesS,boundsS,argsS,stmtsS,armsS,funcsS,Q.len,Q.len_app,len_typeQ,len_exprQ]
theorem len_dataQ (x:DataD):(dataQ x).len=5:=rfl
theorem len_traitQ (x:TraitD):(traitQ x).len=2:=rfl
theorem len_implQ (x:ImplD):(implQ x).len=8:=by simp only[implQ,strsQ,boundsS,Q.len,Q.len_app,len_typeQ]
theorem len_funcQ (x:FuncD):(funcQ x).len=10:=by cases x;simp only[funcQ_mk,strsQ,typesS,boundsS,argsS,stmtsS,armsS,funcsS,Q.len,Q.len_app,len_typeQ,len_exprQ]
theorem cells_2 {cs:List Value} (h:cs.length=2):∃ y1 y2,cs=[y1,y2]:=by
 match cs,h with
 | [y1,y2],_=>exact⟨_,_,rfl⟩
theorem cells_3 {cs:List Value} (h:cs.length=3):∃ y1 y2 y3,cs=[y1,y2,y3]:=by
 match cs,h with
 | [y1,y2,y3],_=>exact⟨_,_,_,rfl⟩
theorem cells_4 {cs:List Value} (h:cs.length=4):∃ y1 y2 y3 y4,cs=[y1,y2,y3,y4]:=by
 match cs,h with
 | [y1,y2,y3,y4],_=>exact⟨_,_,_,_,rfl⟩
theorem cells_5 {cs:List Value} (h:cs.length=5):∃ y1 y2 y3 y4 y5,cs=[y1,y2,y3,y4,y5]:=by
 match cs,h with
 | [y1,y2,y3,y4,y5],_=>exact⟨_,_,_,_,_,rfl⟩
theorem cells_6 {cs:List Value} (h:cs.length=6):∃ y1 y2 y3 y4 y5 y6,cs=[y1,y2,y3,y4,y5,y6]:=by
 match cs,h with
 | [y1,y2,y3,y4,y5,y6],_=>exact⟨_,_,_,_,_,_,rfl⟩
theorem cells_8 {cs:List Value} (h:cs.length=8):∃ y1 y2 y3 y4 y5 y6 y7 y8,cs=[y1,y2,y3,y4,y5,y6,y7,y8]:=by
 match cs,h with
 | [y1,y2,y3,y4,y5,y6,y7,y8],_=>exact⟨_,_,_,_,_,_,_,_,rfl⟩
theorem cells_10 {cs:List Value} (h:cs.length=10):∃ y1 y2 y3 y4 y5 y6 y7 y8 y9 y10,cs=[y1,y2,y3,y4,y5,y6,y7,y8,y9,y10]:=by
 match cs,h with
 | [y1,y2,y3,y4,y5,y6,y7,y8,y9,y10],_=>exact⟨_,_,_,_,_,_,_,_,_,_,rfl⟩
theorem cells_17 {cs:List Value} (h:cs.length=17):∃ y1 y2 y3 y4 y5 y6 y7 y8 y9 y10 y11 y12 y13 y14 y15 y16 y17,cs=[y1,y2,y3,y4,y5,y6,y7,y8,y9,y10,y11,y12,y13,y14,y15,y16,y17]:=by
 match cs,h with
 | [y1,y2,y3,y4,y5,y6,y7,y8,y9,y10,y11,y12,y13,y14,y15,y16,y17],_=>exact⟨_,_,_,_,_,_,_,_,_,_,_,_,_,_,_,_,_,rfl⟩
theorem info_ty:(Tryz.prog.info? 39).map (fun i=>(i.zero,i.size,i.bytes))=some (some (.agg #[.string ⟨#[]⟩,.slice none 0 0,.int .i64 0]),3,48):=by kernel_rfl
theorem info_var:(Tryz.prog.info? 47).map (fun i=>(i.zero,i.size,i.bytes))=some (some (.agg #[.string ⟨#[]⟩,.slice none 0 0,.int .i64 0]),3,48):=by kernel_rfl
theorem info_bound:(Tryz.prog.info? 131).map (fun i=>(i.zero,i.size,i.bytes))=some (some (.agg #[.string ⟨#[]⟩,.string ⟨#[]⟩,.int .i64 0]),3,40):=by kernel_rfl
theorem info_arg:(Tryz.prog.info? 155).map (fun i=>(i.zero,i.size,i.bytes))=some (some (.agg #[.string ⟨#[]⟩,.string ⟨#[]⟩,.slice none 0 0,.int .i64 0,.int .i64 0,.int .i64 0]),6,80):=by kernel_rfl
theorem info_stmt:(Tryz.prog.info? 52).map (fun i=>(i.zero,i.size,i.bytes))=some (some (.agg #[.int .i64 0,.string ⟨#[]⟩,.slice none 0 0,.slice none 0 0,.int .i64 0,.string ⟨#[]⟩,.string ⟨#[]⟩,.string ⟨#[]⟩,.slice none 0 0,.int .i64 0,.slice none 0 0,.int .i64 0,.slice none 0 0,.slice none 0 0,.slice none 0 0,.slice none 0 0,.int .i64 0]),17,296):=by kernel_rfl
theorem info_arm:(Tryz.prog.info? 138).map (fun i=>(i.zero,i.size,i.bytes))=some (some (.agg #[.string ⟨#[]⟩,.slice none 0 0,.slice none 0 0,.int .i64 0]),4,72):=by kernel_rfl
theorem info_data:(Tryz.prog.info? 45).map (fun i=>(i.zero,i.size,i.bytes))=some (some (.agg #[.string ⟨#[]⟩,.slice none 0 0,.slice none 0 0,.int .i64 0,.int .i64 0]),5,80):=by kernel_rfl
theorem info_trait:(Tryz.prog.info? 89).map (fun i=>(i.zero,i.size,i.bytes))=some (some (.agg #[.string ⟨#[]⟩,.int .i64 0]),2,24):=by kernel_rfl
theorem info_impl:(Tryz.prog.info? 91).map (fun i=>(i.zero,i.size,i.bytes))=some (some (.agg #[.string ⟨#[]⟩,.slice none 0 0,.slice none 0 0,.string ⟨#[]⟩,.slice none 0 0,.int .i64 0,.string ⟨#[]⟩,.int .i64 0]),8,136):=by kernel_rfl
theorem info_func:(Tryz.prog.info? 42).map (fun i=>(i.zero,i.size,i.bytes))=some (some (.agg #[.string ⟨#[]⟩,.slice none 0 0,.slice none 0 0,.slice none 0 0,.slice none 0 0,.string ⟨#[]⟩,.slice none 0 0,.int .i64 0,.slice none 0 0,.int .i64 0]),10,192):=by kernel_rfl
theorem info_str:(Tryz.prog.info? 9).map (fun i=>(i.zero,i.size,i.bytes))=some (some (.string ⟨#[]⟩),1,16):=by kernel_rfl
theorem keep_row {E s B:Nat} {α:Type} {f:α→Q} {l:List α} {R w0:Nat} {w w':World} {v:Value} (h:okRow E s f B l w v) (hB:w0≤B) (hf:Fr [R] w w') (hR:R<w0):okRow E s f w0 l w' v :=
 RowV.mono h (fun k hk hl=>⟨by omega,hf.block k hl (by simp;omega)⟩)
theorem okRow_nil {α:Type} (E s:Nat) (f:α→Q) (B:Nat) (w:World):okRow E s f B [] w (.slice none 0 0):=RowV.nil _ _ _ _
theorem expect_shr {ws:List Txt} {ts r:List Tk} {x:Txt} (h:Px.expect ws ts=.ok x r):r.length≤ts.length:=by
 simp only[Px.expect] at h
 split at h
 ·cases h;simp
 ·cases h
def Strict {α:Type} (p:Px.Rd α):Prop:=∀ ts a r,p ts=.ok a r→r.length<ts.length
end Go.Proofs.YtghohohagbbajaaGreatDoor
