/- part of the proof -/
import Derived.Test.YtghohohagbbajaaGreatDoorYBA
import Derived.Test.YtghohohagbbajaaGreatDoorYO
import Derived.Deep.RegionLaw
set_option linter.unusedVariables false
set_option linter.unusedSimpArgs false
set_option linter.unusedSectionVars false
namespace Go.Proofs.YtghohohagbbajaaGreatDoor
open Go.RowKit Go.Lib
open Lx (Tk)
open Px (Txt TyE VarD DataD TraitD BoundD ImplD ArgD ExprD StmtD ArmD FuncD ModD)
def Q.no (E:Nat):Q→Prop
 | .nil=>True
 | .int _ r=>r.no E
 | .str _ r=>r.no E
 | .sl F _ _ q r=>F≠E∧q.no E∧r.no E
theorem Q.no_app {E:Nat} : ∀ {x y:Q},x.no E→y.no E→(x.app y).no E
 | .nil,y,_,h=>h
 | .int n r,y,h,h'=>Q.no_app (x:=r) h h'
 | .str n r,y,h,h'=>Q.no_app (x:=r) h h'
 | .sl F s n q r,y,h,h'=>⟨h.1,h.2.1,Q.no_app (x:=r) h.2.2 h'⟩
theorem no_rows {E:Nat} {α:Type} {f:α→Q} (h:∀ a,(f a).no E):∀ l:List α,(rowsQ f l).no E
 | []=>trivial
 | a :: l=>Q.no_app (h a) (no_rows h l)
theorem Rep.avoid {w:World} {N:Nat→Prop} {E g:Nat} {cur:Array Value} (hg:w.heap[g]?=some (.cells cur E (0,0))):∀ {q:Q} {cs:List Value},Rep w N q cs→q.no E→Rep w (fun k=>N k∧k≠g) q cs
 | .nil,cs,h,_=>by rw[Rep] at *;exact h
 | .int n r,cs,h,hn=>by
  rw[Rep] at *
  obtain⟨c,e,h⟩:=h
  exact⟨c,e,Rep.avoid hg h hn⟩
 | .str n r,cs,h,hn=>by
  rw[Rep] at *
  obtain⟨c,e,h⟩:=h
  exact⟨c,e,Rep.avoid hg h hn⟩
 | .sl F s n q r,cs,h,hn=>by
  rw[Rep] at *
  obtain⟨v,c,e,h1,h⟩:=h
  refine⟨v,c,e,?_,Rep.avoid hg h hn.2.2⟩
  rcases h1 with ⟨a,b,hq⟩|⟨g',cap,cu,xs,a,b,hN,hg',c1,c2,c3,c4,c5,hq⟩
  ·exact .inl ⟨a,b,Rep.avoid hg hq hn.2.1⟩
  ·refine .inr ⟨g',cap,cu,xs,a,b,⟨hN,?_⟩,hg',c1,c2,c3,c4,c5,Rep.avoid hg hq hn.2.1⟩
   rintro rfl
   rw[hg] at hg'
   simp only[Option.some.injEq,Obj.cells.injEq] at hg'
   exact hn.1 hg'.2.1.symm
theorem ListAt.beside {w w':World} {B E E' s n g:Nat} {q:Q} {v:Value} {cu:Array Value} (h:ListAt w B E s n q v) (hg:w.heap[g]?=some (.cells cu E' (0,0))) (hE:E≠E') (hno:q.no E') (hgr:w.grownBy w' (some g)):ListAt w' B E s n q v:=by
 rcases h with h|⟨g1,cap,cur,xs,a,b,c,d,e,f,i,j,k,hq⟩
 ·exact .inl h
 ·have hl:g1<w.heap.size:=(Array.getElem?_eq_some_iff.1 d).1
  have hne:g1≠g:=by
   rintro rfl
   rw[hg] at d
   simp only[Option.some.injEq,Obj.cells.injEq] at d
   exact hE d.2.1.symm
  refine .inr ⟨g1,cap,cur,xs,a,b,c,(hgr.block g1 hl (by simpa using hne)).trans d,e,f,i,j,k,(Rep.avoid hg hq hno).mono (fun k hk hl=>⟨hk.1,hgr.block k hl (by simpa using hk.2)⟩)⟩
theorem ListAt.still {w w':World} {B E s n:Nat} {q:Q} {v:Value} (h:ListAt w B E s n q v) (hgr:w.grownBy w' none):ListAt w' B E s n q v:=by
 rcases h with h|⟨g1,cap,cur,xs,a,b,c,d,e,f,i,j,k,hq⟩
 ·exact .inl h
 ·have hl:g1<w.heap.size:=(Array.getElem?_eq_some_iff.1 d).1
  exact .inr ⟨g1,cap,cur,xs,a,b,c,(hgr.block g1 hl (by simp)).trans d,e,f,i,j,k,hq.mono (fun k hk hl=>⟨hk,hgr.block k hl (by simp)⟩)⟩
theorem ListAt.side {w w':World} {B E E' s s' n n':Nat} {q q':Q} {v v':Value} (h:ListAt w B E s n q v) (h2:ListAt w B E' s' n' q' v') (hE:E≠E') (hno:q.no E') (hgr:w.grownBy w' v'.ownBlock):ListAt w' B E s n q v:=by
 rcases h2 with ⟨rfl,_⟩|⟨g1,cap,cur,xs,rfl,b,c,d,_⟩
 ·exact h.still (by simpa [Value.ownBlock] using hgr)
 ·exact h.beside d hE hno (by simpa [Value.ownBlock] using hgr)
theorem rows_of {E:Nat} {α:Type} {f:α→Q} : ∀ (l:List α),(∀ a∈l,(f a).no E)→(rowsQ f l).no E
 | [],_=>trivial
 | a :: l,h=>Q.no_app (h a (by simp)) (rows_of l (fun b hb=>h b (by simp[hb])))
section
variable {E:Nat} (h1:9≠E) (h2:39≠E)
theorem no_str (t:Txt):(strQ t).no E:=trivial
include h1 in
theorem no_strs (l:List Txt) {r:Q} (hr:r.no E):(strsQ l r).no E:=⟨h1,no_rows no_str l,hr⟩
include h2 in
theorem no_type:∀ t:TyE,(typeQ t).no E
 | .mk x a o=>by
  rw[typeQ_mk]
  refine⟨h2,?_,trivial⟩
  have:∀ t∈a,(typeQ t).no E:=fun t _=>no_type t
  exact rows_of a this
include h2 in
theorem no_types (l:List TyE) {r:Q} (hr:r.no E):(typesS l r).no E:=⟨h2,no_rows (no_type h2) l,hr⟩
include h2 in
theorem no_var (v:VarD):(varQ v).no E:=no_types (r:=.int v.off .nil) h2 v.fields trivial
theorem no_bound (v:BoundD):(boundQ v).no E:=trivial
include h1 h2 in
theorem no_data (h3:47≠E) (d:DataD):(dataQ d).no E :=
 no_strs h1 _ ⟨h3,no_rows (no_var h2) _,trivial⟩
theorem no_trait (d:TraitD):(traitQ d).no E:=trivial
theorem no_bounds (h3:131≠E) (l:List BoundD) {r:Q} (hr:r.no E):(boundsS l r).no E:=⟨h3,no_rows no_bound l,hr⟩
include h1 h2 in
theorem no_impl (h3:131≠E) (d:ImplD):(implQ d).no E :=
 no_strs h1 _ (no_bounds h3 _ (Q.no_app (no_type h2 _) trivial))
include h2 in
theorem no_arg (a:ArgD):(argQ a).no E:=Q.no_app (x:=typeQ a.type) (no_type h2 _) trivial
include h2 in
theorem no_args (h3:155≠E) (l:List ArgD) {r:Q} (hr:r.no E):(argsS l r).no E:=⟨h3,no_rows (no_arg h2) l,hr⟩
include h1 h2 in
theorem no_expr (e:ExprD):(exprQ e).no E:=no_strs h1 _ (no_types h2 _ trivial)
end
structure Far (E:Nat):Prop where
 h1:9≠E
 h2:39≠E
 h3:131≠E
 h4:155≠E
 h5:52≠E
 h6:138≠E
 h7:42≠E
mutual
theorem no_stmt {E:Nat} (h:Far E):∀ s:StmtD,(stmtQ s).no E
 | .mk k x l t e th el ar fn o=>by
  rw[stmtQ_mk]
  exact no_strs h.h1 _ (no_types h.h2 _ (Q.no_app (no_expr h.h1 h.h2 e) ⟨h.h5,by rw[← stmtsQ_eq];exact no_stmts h th,h.h5,by rw[← stmtsQ_eq];exact no_stmts h el,h.h6,by rw[← armsQ_eq];exact no_arms h ar,h.h7,by rw[← funcsQ_eq];exact no_funcs h fn,trivial⟩))
theorem no_stmts {E:Nat} (h:Far E):∀ l:List StmtD,(stmtsQ l).no E
 | []=>by rw[stmtsQ];trivial
 | s :: r=>by rw[stmtsQ];exact Q.no_app (no_stmt h s) (no_stmts h r)
theorem no_arm {E:Nat} (h:Far E):∀ s:ArmD,(armQ s).no E
 | .mk x l b o=>by
  rw[armQ_mk]
  exact no_strs h.h1 _ ⟨h.h5,by rw[← stmtsQ_eq];exact no_stmts h b,trivial⟩
theorem no_arms {E:Nat} (h:Far E):∀ l:List ArmD,(armsQ l).no E
 | []=>by rw[armsQ];trivial
 | s :: r=>by rw[armsQ];exact Q.no_app (no_arm h s) (no_arms h r)
theorem no_func {E:Nat} (h:Far E):∀ s:FuncD,(funcQ s).no E
 | .mk x p bs c a t b o=>by
  rw[funcQ_mk]
  exact no_strs h.h1 _ (no_bounds h.h3 _ (no_args h.h2 h.h4 _ (no_args h.h2 h.h4 _ (Q.no_app (no_type h.h2 t) ⟨h.h5,by rw[← stmtsQ_eq];exact no_stmts h b,trivial⟩))))
theorem no_funcs {E:Nat} (h:Far E):∀ l:List FuncD,(funcsQ l).no E
 | []=>by rw[funcsQ];trivial
 | s :: r=>by rw[funcsQ];exact Q.no_app (no_func h s) (no_funcs h r)
end
structure ModAt (w:World) (B:Nat) (M:ModD) (vu vd vt vi vf:Value):Prop where
 u:ListAt w B 9 1 M.uses.length (rowsQ strQ M.uses) vu
 d:ListAt w B 45 5 M.datas.length (rowsQ dataQ M.datas) vd
 t:ListAt w B 89 2 M.traits.length (rowsQ traitQ M.traits) vt
 i:ListAt w B 91 8 M.impls.length (rowsQ implQ M.impls) vi
 f:ListAt w B 42 10 M.funcs.length (rowsQ funcQ M.funcs) vf
theorem ModAt.keep {w w':World} {B:Nat} {M:ModD} {vu vd vt vi vf:Value} (h:ModAt w B M vu vd vt vi vf) {X:List Nat} (hf:Fr X w w') (hX:∀ k∈X,k<B):ModAt w' B M vu vd vt vi vf :=
 ⟨h.u.keep hf hX,h.d.keep hf hX,h.t.keep hf hX,h.i.keep hf hX,h.f.keep hf hX⟩
theorem ModAt.moreD {w w':World} {B:Nat} {M:ModD} {vu vd vt vi vf v':Value} {x:DataD} (h:ModAt w B M vu vd vt vi vf) (hg:w.grownBy w' vd.ownBlock)
  (hL:ListAt w' B 45 5 (M.datas.length+1) ((rowsQ dataQ M.datas).app (dataQ x)) v'):ModAt w' B { M with datas:=M.datas ++ [x] } vu v' vt vi vf :=
 ⟨h.u.side h.d (by decide) (no_rows no_str _) hg,by rw[List.length_append,rowsQ_snoc];exact hL,h.t.side h.d (by decide) (no_rows no_trait _) hg,
  h.i.side h.d (by decide) (no_rows (no_impl (by decide) (by decide) (by decide)) _) hg,h.f.side h.d (by decide) (no_rows (no_func ⟨by decide,by decide,by decide,by decide,by decide,by decide,by decide⟩) _) hg⟩
theorem ModAt.moreT {w w':World} {B:Nat} {M:ModD} {vu vd vt vi vf v':Value} {x:TraitD} (h:ModAt w B M vu vd vt vi vf) (hg:w.grownBy w' vt.ownBlock)
  (hL:ListAt w' B 89 2 (M.traits.length+1) ((rowsQ traitQ M.traits).app (traitQ x)) v'):ModAt w' B { M with traits:=M.traits ++ [x] } vu vd v' vi vf :=
 ⟨h.u.side h.t (by decide) (no_rows no_str _) hg,h.d.side h.t (by decide) (no_rows (no_data (by decide) (by decide) (by decide)) _) hg,by rw[List.length_append,rowsQ_snoc];exact hL,
  h.i.side h.t (by decide) (no_rows (no_impl (by decide) (by decide) (by decide)) _) hg,h.f.side h.t (by decide) (no_rows (no_func ⟨by decide,by decide,by decide,by decide,by decide,by decide,by decide⟩) _) hg⟩
theorem ModAt.moreI {w w':World} {B:Nat} {M:ModD} {vu vd vt vi vf v':Value} {x:ImplD} (h:ModAt w B M vu vd vt vi vf) (hg:w.grownBy w' vi.ownBlock)
  (hL:ListAt w' B 91 8 (M.impls.length+1) ((rowsQ implQ M.impls).app (implQ x)) v'):ModAt w' B { M with impls:=M.impls ++ [x] } vu vd vt v' vf :=
 ⟨h.u.side h.i (by decide) (no_rows no_str _) hg,h.d.side h.i (by decide) (no_rows (no_data (by decide) (by decide) (by decide)) _) hg,h.t.side h.i (by decide) (no_rows no_trait _) hg,
  by rw[List.length_append,rowsQ_snoc];exact hL,h.f.side h.i (by decide) (no_rows (no_func ⟨by decide,by decide,by decide,by decide,by decide,by decide,by decide⟩) _) hg⟩
theorem ModAt.moreF {w w':World} {B:Nat} {M:ModD} {vu vd vt vi vf v':Value} {x:FuncD} (h:ModAt w B M vu vd vt vi vf) (hg:w.grownBy w' vf.ownBlock)
  (hL:ListAt w' B 42 10 (M.funcs.length+1) ((rowsQ funcQ M.funcs).app (funcQ x)) v'):ModAt w' B { M with funcs:=M.funcs ++ [x] } vu vd vt vi v' :=
 ⟨h.u.side h.f (by decide) (no_rows no_str _) hg,h.d.side h.f (by decide) (no_rows (no_data (by decide) (by decide) (by decide)) _) hg,h.t.side h.f (by decide) (no_rows no_trait _) hg,
  h.i.side h.f (by decide) (no_rows (no_impl (by decide) (by decide) (by decide)) _) hg,by rw[List.length_append,rowsQ_snoc];exact hL⟩
def RPM (c:Ctx) (b:Nat) (w0:World) (r:Px.Res ModD) (e:Ending) (w':World):Prop :=
 Fr [c.R,b] w0 w' ∧
 match r with
 | .ok M ts=>Inv c ts w'∧e=.returned (.tuple #[])∧∃ vu vd vt vi vf,Blk w' b 29 #[.string ⟨M.name.toArray⟩,vu,vd,vt,vi,vf]∧ModAt w' w0.heap.size M vu vd vt vi vf
 | .bad ts=>Inv c ts w'∧e=.panicked [failE c ts]
theorem RPM.ok {c:Ctx} {b:Nat} {w0 w':World} {r:Px.Res ModD} {M:ModD} {ts:List Tk} {vu vd vt vi vf:Value} (hr:r=.ok M ts) (h1:Fr [c.R,b] w0 w') (h2:Inv c ts w') (h3:Blk w' b 29 #[.string ⟨M.name.toArray⟩,vu,vd,vt,vi,vf]) (h4:ModAt w' w0.heap.size M vu vd vt vi vf) :
  RPM c b w0 r (.returned (.tuple #[])) w':=by
 subst hr;exact⟨h1,h2,rfl,vu,vd,vt,vi,vf,h3,h4⟩
theorem RPM.bad {c:Ctx} {b:Nat} {w0 w':World} {r:Px.Res ModD} {ts:List Tk} (hr:r=.bad ts) (h1:Fr [c.R,b] w0 w') (h2:Inv c ts w'):RPM c b w0 r (.panicked [failE c ts]) w':=by
 subst hr;exact⟨h1,h2,rfl⟩
theorem expect_mem {ws:List Txt} {ts r:List Tk} {x:Txt} (h:Px.expect ws ts=.ok x r):x∈ws:=by
 simp only[Px.expect] at h
 split at h
 ·rename_i hc;cases h;simpa using hc
 ·cases h
theorem expect_len {ws:List Txt} {ts r:List Tk} {x:Txt} (h:Px.expect ws ts=.ok x r) (hne:ws.contains []=false):r.length<ts.length:=by
 simp only[Px.expect] at h
 split at h
 ·rename_i hc
  cases h
  cases ts with
  | nil=>simp only[Px.word] at hc;rw[hne] at hc;cases hc
  | cons t r=>simp
 ·cases h
set_option maxRecDepth 100000 in
set_option maxHeartbeats 3200000 in
theorem item_any (c:Ctx) (M:ModD) (w0:World) (ts0:List Tk) (h0:Inv c ts0 w0) (ts:List Tk) (w:World) (h:Inv c ts w) (b:Nat) (hap:c.Apart b) (hb:b<w0.heap.size) (vu vd vt vi vf:Value) (hF:Fr [c.R,b] w0 w)
  (hD:Blk w b 29 #[.string ⟨M.name.toArray⟩,vu,vd,vt,vi,vf]) (hM:ModAt w w0.heap.size M vu vd vt vi vf) (n:Nat) (hm:ts.length<n) (hlen:M.datas.length+M.traits.length+M.impls.length+M.funcs.length≤6000) :
  Calls Tryz.prog 56 #[.pointer (some ⟨c.R,0,none⟩),.pointer (some ⟨b,0,none⟩)] w (RPM c b w0 (Px.item c.size n M ts)):=by
 obtain⟨pu,cu,rfl⟩:=hM.u.shape
 obtain⟨pd,cd,rfl⟩:=hM.d.shape
 obtain⟨pt,ct,rfl⟩:=hM.t.shape
 obtain⟨pi,ci,rfl⟩:=hM.i.shape
 obtain⟨pf,cf,rfl⟩:=hM.f.shape
 have H:=hid h
 have H0:=hid h0
 have HD0:=hid hD
 have HM0:=hid hM
 have HF0:=hid hF
 have HR0:=H.out.lt.1
 have HRw:=h0.lt.1
 have hb0:b≠c.R:=hap.1
 have hz0:w0.heap.size≤w.heap.size:=hF.size
 clear h hD hM hF h0
 go_enter Tryz.func56,Tryz.ntmps56
 go_wp2_with fail
 refine(offset_any c ts _ H.out).mono ?_
 rintro e w' ⟨rfl,rfl⟩
 go_wp2_with fail
 refine(expect_any c ts [[100,97,116,97],[116,114,97,105,116],[105,109,112,108],[102,110]] _ _ 4 (H.out.alloc _) rfl (by exact Blk.new_at (by simp)) rfl (by decide)).mono ?_
 rintro e w1 hp
 rcases hp.cases with ⟨x1,ts1,v1,hq1,hf,hi,rfl,hv⟩|⟨ts1,hq1,hf,hi,rfl⟩
 ·clear hp
  obtain rfl:=hv
  have hx1:=expect_mem hq1.out
  have hT:Fr [c.R] w w1:=((Fr.refl _ _).alloc _).trans hf
  have HI1:=hid hi
  have HF1:=hid (HF0.out.trans hT.wide)
  have hD1:=HD0.out.keep hT (by simpa using hb0)
  have HD1:=hid hD1
  have HM1:=hid (HM0.out.keep hT (by simpa using HRw))
  have hz1:w.heap.size≤w1.heap.size:=hT.size
  have hl1:ts1.length<ts.length:=expect_len hq1.out rfl
  have hbl:b<w1.heap.size:=hD1.lt
  clear hT hf hi hD1
  simp only[List.mem_cons,List.not_mem_nil,or_false] at hx1
  rcases hx1 with rfl|rfl|rfl|rfl
  ·have d2:=HD1.out.at 2 (v:=.slice pd M.datas.length cd) rfl
   have HSP:Hid (∀ (x:DataD) (r:List Tk),Px.data c.size n (offOf c.size ts) ts1=.ok x r→Px.item c.size n M ts=.ok { M with datas:=M.datas ++ [x] } r):=hid (fun x r hx=>by simp[Px.item,bind,Px.Rd.bind,offset_res,hq1.out,hx,pure,Px.Rd.pure])
   have HBAD:Hid (∀ ts3 w3,Px.data c.size n (offOf c.size ts) ts1=.bad ts3→Fr [c.R] w1.drew w3→Inv c ts3 w3→RPM c b w0 (Px.item c.size n M ts) (.panicked [failE c ts3]) w3):=hid (fun ts3 w3 hx hf3 hi3=>RPM.bad (by simp[Px.item,bind,Px.Rd.bind,offset_res,hq1.out,hx]) (HF1.out.drew.trans hf3.wide) hi3)
   obtain⟨i0,hi,iz0,iz1,iz2⟩:=info_parts info_data
   have HINF:=hid hi
   clear hi
   go_wp2_with fail
   go_region_law (first|(refine step_append_list _ (by rfl) _ _ 24 (by rfl) w0.heap.size 45 i0 _ 5 80 Tryz.underlying24 HINF.out iz0 iz1 iz2 rfl (by decide) (.slice pd M.datas.length cd) M.datas.length 1 (rowsQ dataQ M.datas) (dataQ x) (by rfl) G1.out ⟨w3.heap.size,0,none⟩ 1 [.string s3_0,.slice p3_1 n3_1 c3_1,.slice p3_2 n3_2 c3_2,.int .i64 i3_3,.int .i64 i3_4] (by rfl) (by decide) rfl G2.out G3.out (by omega) (by decide) g4 ?_;intro p' c' w4 hL4 hg4;have hown:∀ k,(.slice pd M.datas.length cd:Value).ownBlock=some k→w0.heap.size≤k:=(fun k e=>(HM1.out.d.own k e).1);have hD4:=hid (((HD1.out.keep ((Fr.refl [c.R] w1).drew.trans hf3) (by simpa using hb0)).alloc (.cells #[.string s3_0,.slice p3_1 n3_1 c3_1,.slice p3_2 n3_2 c3_2,.int .i64 i3_3,.int .i64 i3_4] 45)).grown hg4 (fun k e=>by have:=hown k e;omega));have hk4:w4.cell? ⟨b,2,none⟩=some (.slice pd M.datas.length cd):=hD4.out.cell 2;have hf4:w4.frozen? ⟨b,2,none⟩=false:=hD4.out.frozen 2;have HL4:=hid hL4;have HG4:=hid hg4;clear hL4 hg4)|(go_simp;go_at_call 90;refine Calls.both (data_any c (offOf c.size ts) ts1 _ HI1.out.drew n (type_any c n) (by omega)) (fun ts3 w3 h1 h2 h3=>And.intro rfl (HBAD.out ts3 w3 h1 h2 h3)) ?_;intro x ts3 v3 w3 hq3 hf3 hi3 hv3;obtain⟨cs,rfl,hrep⟩:=hv3;obtain⟨s3_0,p3_1,n3_1,c3_1,p3_2,n3_2,c3_2,i3_3,i3_4,rfl⟩:=hrep.c_dataQ; have hk3:w3.cell? ⟨b,2,none⟩=some (.slice pd M.datas.length cd):=(hf3.cell HD1.out.lt (by simpa using hb0) 2).trans d2;have h9:w1.heap.size≤w3.heap.size:=hf3.size;have hz3:b<w3.heap.size:=(by omega);obtain⟨g1,g2,g3,g4⟩:=append_ready (news:=[.string s3_0,.slice p3_1 n3_1 c3_1,.slice p3_2 n3_2 c3_2,.int .i64 i3_3,.int .i64 i3_4]) HM1.out.d (Nat.le_refl _) ((Fr.refl [c.R] w1).drew.trans hf3) HRw (by omega) hrep 45;have G1:=hid g1;have G2:=hid g2;have G3:=hid g3;have HQ3:=hid hq3.out;clear g1 g2 g3 hrep hq3))
   all_goals
    have hz4:w0.heap.size≤w4.heap.size:=by have h1:=HG4.out.size;simp at h1;omega
    have hI4:=(hi3.alloc (.cells #[.string s3_0,.slice p3_1 n3_1 c3_1,.slice p3_2 n3_2 c3_2,.int .i64 i3_3,.int .i64 i3_4] 45)).grown H0.out HG4.out hown
    have hF4:=((HF1.out.drew.trans hf3.wide).alloc (.cells #[.string s3_0,.slice p3_1 n3_1 c3_1,.slice p3_2 n3_2 c3_2,.int .i64 i3_3,.int .i64 i3_4] 45)).grown HG4.out hown
    have hM4:=((HM1.out.keep ((Fr.refl [c.R] w1).drew.trans hf3) (by simpa using HRw)).keep (X:=[]) ((Fr.refl _ _).alloc (.cells #[.string s3_0,.slice p3_1 n3_1 c3_1,.slice p3_2 n3_2 c3_2,.int .i64 i3_3,.int .i64 i3_4] 45)) (by simp)).moreD HG4.out HL4.out
    have hfs:Fr [b] w4 (w4.setCell ⟨b,2,none⟩ (.slice p' (M.datas.length+1) c')):=(Fr.refl _ _).setCell (.inl (by simp)) _
    have HF7:=hid (hF4.trans (hfs.mono (Y:=[c.R,b]) (fun k _ hk=>by simp at hk;simp[hk])))
    have HI7:=hid (hI4.frp hap hfs)
    have HD7:=hid (Blk.set hD4.out 2 (.slice p' (M.datas.length+1) c'))
    have HM7:=hid (hM4.keep hfs (by simpa using hb))
    clear hfs hI4 hF4 hM4 hf3 hi3 hk3 hk4 hf4 hown
    try go_wp2_with fail
    first|go_end0|refine bodyPost_ret (results_none rfl _ _ _) rfl ?_
    exact RPM.ok (HSP.out x _ HQ3.out) HF7.out HI7.out HD7.out HM7.out
  ·have d3:=HD1.out.at 3 (v:=.slice pt M.traits.length ct) rfl
   have HSP:Hid (∀ (x:TraitD) (r:List Tk),Px.trait (offOf c.size ts) ts1=.ok x r→Px.item c.size n M ts=.ok { M with traits:=M.traits ++ [x] } r):=hid (fun x r hx=>by simp[Px.item,bind,Px.Rd.bind,offset_res,hq1.out,hx,pure,Px.Rd.pure])
   have HBAD:Hid (∀ ts3 w3,Px.trait (offOf c.size ts) ts1=.bad ts3→Fr [c.R] w1.drew w3→Inv c ts3 w3→RPM c b w0 (Px.item c.size n M ts) (.panicked [failE c ts3]) w3):=hid (fun ts3 w3 hx hf3 hi3=>RPM.bad (by simp[Px.item,bind,Px.Rd.bind,offset_res,hq1.out,hx]) (HF1.out.drew.trans hf3.wide) hi3)
   obtain⟨i0,hi,iz0,iz1,iz2⟩:=info_parts info_trait
   have HINF:=hid hi
   clear hi
   go_wp2_with fail
   go_region_law (first|(refine step_append_list _ (by rfl) _ _ 25 (by rfl) w0.heap.size 89 i0 _ 2 24 Tryz.underlying25 HINF.out iz0 iz1 iz2 rfl (by decide) (.slice pt M.traits.length ct) M.traits.length 1 (rowsQ traitQ M.traits) (traitQ x) (by rfl) G1.out ⟨w3.heap.size,0,none⟩ 1 [.string s3_0,.int .i64 i3_1] (by rfl) (by decide) rfl G2.out G3.out (by omega) (by decide) g4 ?_;intro p' c' w4 hL4 hg4;have hown:∀ k,(.slice pt M.traits.length ct:Value).ownBlock=some k→w0.heap.size≤k:=(fun k e=>(HM1.out.t.own k e).1);have hD4:=hid (((HD1.out.keep ((Fr.refl [c.R] w1).drew.trans hf3) (by simpa using hb0)).alloc (.cells #[.string s3_0,.int .i64 i3_1] 89)).grown hg4 (fun k e=>by have:=hown k e;omega));have hk4:w4.cell? ⟨b,3,none⟩=some (.slice pt M.traits.length ct):=hD4.out.cell 3;have hf4:w4.frozen? ⟨b,3,none⟩=false:=hD4.out.frozen 3;have HL4:=hid hL4;have HG4:=hid hg4;clear hL4 hg4)|(go_simp;go_at_call 91;refine Calls.both (trait_any c (offOf c.size ts) ts1 _ HI1.out.drew) (fun ts3 w3 h1 h2 h3=>And.intro rfl (HBAD.out ts3 w3 h1 h2 h3)) ?_;intro x ts3 v3 w3 hq3 hf3 hi3 hv3;obtain⟨cs,rfl,hrep⟩:=hv3;obtain⟨s3_0,i3_1,rfl⟩:=hrep.c_traitQ; have hk3:w3.cell? ⟨b,3,none⟩=some (.slice pt M.traits.length ct):=(hf3.cell HD1.out.lt (by simpa using hb0) 3).trans d3;have h9:w1.heap.size≤w3.heap.size:=hf3.size;have hz3:b<w3.heap.size:=(by omega);obtain⟨g1,g2,g3,g4⟩:=append_ready (news:=[.string s3_0,.int .i64 i3_1]) HM1.out.t (Nat.le_refl _) ((Fr.refl [c.R] w1).drew.trans hf3) HRw (by omega) hrep 89;have G1:=hid g1;have G2:=hid g2;have G3:=hid g3;have HQ3:=hid hq3.out;clear g1 g2 g3 hrep hq3))
   all_goals
    have hz4:w0.heap.size≤w4.heap.size:=by have h1:=HG4.out.size;simp at h1;omega
    have hI4:=(hi3.alloc (.cells #[.string s3_0,.int .i64 i3_1] 89)).grown H0.out HG4.out hown
    have hF4:=((HF1.out.drew.trans hf3.wide).alloc (.cells #[.string s3_0,.int .i64 i3_1] 89)).grown HG4.out hown
    have hM4:=((HM1.out.keep ((Fr.refl [c.R] w1).drew.trans hf3) (by simpa using HRw)).keep (X:=[]) ((Fr.refl _ _).alloc (.cells #[.string s3_0,.int .i64 i3_1] 89)) (by simp)).moreT HG4.out HL4.out
    have hfs:Fr [b] w4 (w4.setCell ⟨b,3,none⟩ (.slice p' (M.traits.length+1) c')):=(Fr.refl _ _).setCell (.inl (by simp)) _
    have HF7:=hid (hF4.trans (hfs.mono (Y:=[c.R,b]) (fun k _ hk=>by simp at hk;simp[hk])))
    have HI7:=hid (hI4.frp hap hfs)
    have HD7:=hid (Blk.set hD4.out 3 (.slice p' (M.traits.length+1) c'))
    have HM7:=hid (hM4.keep hfs (by simpa using hb))
    clear hfs hI4 hF4 hM4 hf3 hi3 hk3 hk4 hf4 hown
    try go_wp2_with fail
    first|go_end0|refine bodyPost_ret (results_none rfl _ _ _) rfl ?_
    exact RPM.ok (HSP.out x _ HQ3.out) HF7.out HI7.out HD7.out HM7.out
  ·have d4:=HD1.out.at 4 (v:=.slice pi M.impls.length ci) rfl
   have HSP:Hid (∀ (x:ImplD) (r:List Tk),Px.implementation c.size n (offOf c.size ts) ts1=.ok x r→Px.item c.size n M ts=.ok { M with impls:=M.impls ++ [x] } r):=hid (fun x r hx=>by simp[Px.item,bind,Px.Rd.bind,offset_res,hq1.out,hx,pure,Px.Rd.pure])
   have HBAD:Hid (∀ ts3 w3,Px.implementation c.size n (offOf c.size ts) ts1=.bad ts3→Fr [c.R] w1.drew w3→Inv c ts3 w3→RPM c b w0 (Px.item c.size n M ts) (.panicked [failE c ts3]) w3):=hid (fun ts3 w3 hx hf3 hi3=>RPM.bad (by simp[Px.item,bind,Px.Rd.bind,offset_res,hq1.out,hx]) (HF1.out.drew.trans hf3.wide) hi3)
   obtain⟨i0,hi,iz0,iz1,iz2⟩:=info_parts info_impl
   have HINF:=hid hi
   clear hi
   go_wp2_with fail
   go_region_law (first|(refine step_append_list _ (by rfl) _ _ 26 (by rfl) w0.heap.size 91 i0 _ 8 136 Tryz.underlying26 HINF.out iz0 iz1 iz2 rfl (by decide) (.slice pi M.impls.length ci) M.impls.length 1 (rowsQ implQ M.impls) (implQ x) (by rfl) G1.out ⟨w3.heap.size,0,none⟩ 1 [.string s3_0,.slice p3_1 n3_1 c3_1,.slice p3_2 n3_2 c3_2,.string s3_3,.slice p3_4 n3_4 c3_4,.int .i64 i3_5,.string s3_6,.int .i64 i3_7] (by rfl) (by decide) rfl G2.out G3.out (by omega) (by decide) g4 ?_;intro p' c' w4 hL4 hg4;have hown:∀ k,(.slice pi M.impls.length ci:Value).ownBlock=some k→w0.heap.size≤k:=(fun k e=>(HM1.out.i.own k e).1);have hD4:=hid (((HD1.out.keep ((Fr.refl [c.R] w1).drew.trans hf3) (by simpa using hb0)).alloc (.cells #[.string s3_0,.slice p3_1 n3_1 c3_1,.slice p3_2 n3_2 c3_2,.string s3_3,.slice p3_4 n3_4 c3_4,.int .i64 i3_5,.string s3_6,.int .i64 i3_7] 91)).grown hg4 (fun k e=>by have:=hown k e;omega));have hk4:w4.cell? ⟨b,4,none⟩=some (.slice pi M.impls.length ci):=hD4.out.cell 4;have hf4:w4.frozen? ⟨b,4,none⟩=false:=hD4.out.frozen 4;have HL4:=hid hL4;have HG4:=hid hg4;clear hL4 hg4)|(go_simp;go_at_call 92;refine Calls.both (implementation_any c (offOf c.size ts) ts1 _ HI1.out.drew n (type_any c n) (by omega)) (fun ts3 w3 h1 h2 h3=>And.intro rfl (HBAD.out ts3 w3 h1 h2 h3)) ?_;intro x ts3 v3 w3 hq3 hf3 hi3 hv3;obtain⟨cs,rfl,hrep⟩:=hv3;obtain⟨s3_0,p3_1,n3_1,c3_1,p3_2,n3_2,c3_2,s3_3,p3_4,n3_4,c3_4,i3_5,s3_6,i3_7,rfl⟩:=hrep.c_implQ; have hk3:w3.cell? ⟨b,4,none⟩=some (.slice pi M.impls.length ci):=(hf3.cell HD1.out.lt (by simpa using hb0) 4).trans d4;have h9:w1.heap.size≤w3.heap.size:=hf3.size;have hz3:b<w3.heap.size:=(by omega);obtain⟨g1,g2,g3,g4⟩:=append_ready (news:=[.string s3_0,.slice p3_1 n3_1 c3_1,.slice p3_2 n3_2 c3_2,.string s3_3,.slice p3_4 n3_4 c3_4,.int .i64 i3_5,.string s3_6,.int .i64 i3_7]) HM1.out.i (Nat.le_refl _) ((Fr.refl [c.R] w1).drew.trans hf3) HRw (by omega) hrep 91;have G1:=hid g1;have G2:=hid g2;have G3:=hid g3;have HQ3:=hid hq3.out;clear g1 g2 g3 hrep hq3))
   all_goals
    have hz4:w0.heap.size≤w4.heap.size:=by have h1:=HG4.out.size;simp at h1;omega
    have hI4:=(hi3.alloc (.cells #[.string s3_0,.slice p3_1 n3_1 c3_1,.slice p3_2 n3_2 c3_2,.string s3_3,.slice p3_4 n3_4 c3_4,.int .i64 i3_5,.string s3_6,.int .i64 i3_7] 91)).grown H0.out HG4.out hown
    have hF4:=((HF1.out.drew.trans hf3.wide).alloc (.cells #[.string s3_0,.slice p3_1 n3_1 c3_1,.slice p3_2 n3_2 c3_2,.string s3_3,.slice p3_4 n3_4 c3_4,.int .i64 i3_5,.string s3_6,.int .i64 i3_7] 91)).grown HG4.out hown
    have hM4:=((HM1.out.keep ((Fr.refl [c.R] w1).drew.trans hf3) (by simpa using HRw)).keep (X:=[]) ((Fr.refl _ _).alloc (.cells #[.string s3_0,.slice p3_1 n3_1 c3_1,.slice p3_2 n3_2 c3_2,.string s3_3,.slice p3_4 n3_4 c3_4,.int .i64 i3_5,.string s3_6,.int .i64 i3_7] 91)) (by simp)).moreI HG4.out HL4.out
    have hfs:Fr [b] w4 (w4.setCell ⟨b,4,none⟩ (.slice p' (M.impls.length+1) c')):=(Fr.refl _ _).setCell (.inl (by simp)) _
    have HF7:=hid (hF4.trans (hfs.mono (Y:=[c.R,b]) (fun k _ hk=>by simp at hk;simp[hk])))
    have HI7:=hid (hI4.frp hap hfs)
    have HD7:=hid (Blk.set hD4.out 4 (.slice p' (M.impls.length+1) c'))
    have HM7:=hid (hM4.keep hfs (by simpa using hb))
    clear hfs hI4 hF4 hM4 hf3 hi3 hk3 hk4 hf4 hown
    try go_wp2_with fail
    first|go_end0|refine bodyPost_ret (results_none rfl _ _ _) rfl ?_
    exact RPM.ok (HSP.out x _ HQ3.out) HF7.out HI7.out HD7.out HM7.out
  ·have d5:=HD1.out.at 5 (v:=.slice pf M.funcs.length cf) rfl
   have HSP:Hid (∀ (x:FuncD) (r:List Tk),Px.function c.size n (offOf c.size ts) ts1=.ok x r→Px.item c.size n M ts=.ok { M with funcs:=M.funcs ++ [x] } r):=hid (fun x r hx=>by simp[Px.item,bind,Px.Rd.bind,offset_res,hq1.out,hx,pure,Px.Rd.pure])
   have HBAD:Hid (∀ ts3 w3,Px.function c.size n (offOf c.size ts) ts1=.bad ts3→Fr [c.R] w1.drew w3→Inv c ts3 w3→RPM c b w0 (Px.item c.size n M ts) (.panicked [failE c ts3]) w3):=hid (fun ts3 w3 hx hf3 hi3=>RPM.bad (by simp[Px.item,bind,Px.Rd.bind,offset_res,hq1.out,hx]) (HF1.out.drew.trans hf3.wide) hi3)
   obtain⟨i0,hi,iz0,iz1,iz2⟩:=info_parts info_func
   have HINF:=hid hi
   clear hi
   go_wp2_with fail
   go_region_law (first|(refine step_append_list _ (by rfl) _ _ 27 (by rfl) w0.heap.size 42 i0 _ 10 192 Tryz.underlying27 HINF.out iz0 iz1 iz2 rfl (by decide) (.slice pf M.funcs.length cf) M.funcs.length 1 (rowsQ funcQ M.funcs) (funcQ x) (by rfl) G1.out ⟨w3.heap.size,0,none⟩ 1 [.string s3_0,.slice p3_1 n3_1 c3_1,.slice p3_2 n3_2 c3_2,.slice p3_3 n3_3 c3_3,.slice p3_4 n3_4 c3_4,.string s3_5,.slice p3_6 n3_6 c3_6,.int .i64 i3_7,.slice p3_8 n3_8 c3_8,.int .i64 i3_9] (by rfl) (by decide) rfl G2.out G3.out (by omega) (by decide) g4 ?_;intro p' c' w4 hL4 hg4;have hown:∀ k,(.slice pf M.funcs.length cf:Value).ownBlock=some k→w0.heap.size≤k:=(fun k e=>(HM1.out.f.own k e).1);have hD4:=hid (((HD1.out.keep ((Fr.refl [c.R] w1).drew.trans hf3) (by simpa using hb0)).alloc (.cells #[.string s3_0,.slice p3_1 n3_1 c3_1,.slice p3_2 n3_2 c3_2,.slice p3_3 n3_3 c3_3,.slice p3_4 n3_4 c3_4,.string s3_5,.slice p3_6 n3_6 c3_6,.int .i64 i3_7,.slice p3_8 n3_8 c3_8,.int .i64 i3_9] 42)).grown hg4 (fun k e=>by have:=hown k e;omega));have hk4:w4.cell? ⟨b,5,none⟩=some (.slice pf M.funcs.length cf):=hD4.out.cell 5;have hf4:w4.frozen? ⟨b,5,none⟩=false:=hD4.out.frozen 5;have HL4:=hid hL4;have HG4:=hid hg4;clear hL4 hg4)|(go_simp;go_at_call 93;refine Calls.both (function_any c (offOf c.size ts) ts1 _ HI1.out.drew n (by omega)) (fun ts3 w3 h1 h2 h3=>And.intro rfl (HBAD.out ts3 w3 h1 h2 h3)) ?_;intro x ts3 v3 w3 hq3 hf3 hi3 hv3;obtain⟨cs,rfl,hrep⟩:=hv3;obtain⟨s3_0,p3_1,n3_1,c3_1,p3_2,n3_2,c3_2,p3_3,n3_3,c3_3,p3_4,n3_4,c3_4,s3_5,p3_6,n3_6,c3_6,i3_7,p3_8,n3_8,c3_8,i3_9,rfl⟩:=hrep.c_funcQ; have hk3:w3.cell? ⟨b,5,none⟩=some (.slice pf M.funcs.length cf):=(hf3.cell HD1.out.lt (by simpa using hb0) 5).trans d5;have h9:w1.heap.size≤w3.heap.size:=hf3.size;have hz3:b<w3.heap.size:=(by omega);obtain⟨g1,g2,g3,g4⟩:=append_ready (news:=[.string s3_0,.slice p3_1 n3_1 c3_1,.slice p3_2 n3_2 c3_2,.slice p3_3 n3_3 c3_3,.slice p3_4 n3_4 c3_4,.string s3_5,.slice p3_6 n3_6 c3_6,.int .i64 i3_7,.slice p3_8 n3_8 c3_8,.int .i64 i3_9]) HM1.out.f (Nat.le_refl _) ((Fr.refl [c.R] w1).drew.trans hf3) HRw (by omega) hrep 42;have G1:=hid g1;have G2:=hid g2;have G3:=hid g3;have HQ3:=hid hq3.out;clear g1 g2 g3 hrep hq3))
   all_goals
    have hz4:w0.heap.size≤w4.heap.size:=by have h1:=HG4.out.size;simp at h1;omega
    have hI4:=(hi3.alloc (.cells #[.string s3_0,.slice p3_1 n3_1 c3_1,.slice p3_2 n3_2 c3_2,.slice p3_3 n3_3 c3_3,.slice p3_4 n3_4 c3_4,.string s3_5,.slice p3_6 n3_6 c3_6,.int .i64 i3_7,.slice p3_8 n3_8 c3_8,.int .i64 i3_9] 42)).grown H0.out HG4.out hown
    have hF4:=((HF1.out.drew.trans hf3.wide).alloc (.cells #[.string s3_0,.slice p3_1 n3_1 c3_1,.slice p3_2 n3_2 c3_2,.slice p3_3 n3_3 c3_3,.slice p3_4 n3_4 c3_4,.string s3_5,.slice p3_6 n3_6 c3_6,.int .i64 i3_7,.slice p3_8 n3_8 c3_8,.int .i64 i3_9] 42)).grown HG4.out hown
    have hM4:=((HM1.out.keep ((Fr.refl [c.R] w1).drew.trans hf3) (by simpa using HRw)).keep (X:=[]) ((Fr.refl _ _).alloc (.cells #[.string s3_0,.slice p3_1 n3_1 c3_1,.slice p3_2 n3_2 c3_2,.slice p3_3 n3_3 c3_3,.slice p3_4 n3_4 c3_4,.string s3_5,.slice p3_6 n3_6 c3_6,.int .i64 i3_7,.slice p3_8 n3_8 c3_8,.int .i64 i3_9] 42)) (by simp)).moreF HG4.out HL4.out
    have hfs:Fr [b] w4 (w4.setCell ⟨b,5,none⟩ (.slice p' (M.funcs.length+1) c')):=(Fr.refl _ _).setCell (.inl (by simp)) _
    have HF7:=hid (hF4.trans (hfs.mono (Y:=[c.R,b]) (fun k _ hk=>by simp at hk;simp[hk])))
    have HI7:=hid (hI4.frp hap hfs)
    have HD7:=hid (Blk.set hD4.out 5 (.slice p' (M.funcs.length+1) c'))
    have HM7:=hid (hM4.keep hfs (by simpa using hb))
    clear hfs hI4 hF4 hM4 hf3 hi3 hk3 hk4 hf4 hown
    try go_wp2_with fail
    first|go_end0|refine bodyPost_ret (results_none rfl _ _ _) rfl ?_
    exact RPM.ok (HSP.out x _ HQ3.out) HF7.out HI7.out HD7.out HM7.out
 ·go_wp2_with fail
  exact⟨rfl,RPM.bad (by simp only[Px.item,bind,Px.Rd.bind,offset_res,hq1.out]) (HF0.out.trans (((Fr.refl _ _).alloc _).trans hf).wide) hi⟩
end Go.Proofs.YtghohohagbbajaaGreatDoor
