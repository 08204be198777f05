/- part of the proof -/
import Derived.WalkKit
import Derived.BigQuiet
import Derived.Deep.QuietTactic
import Derived.Outline
import Derived.LoopTactic
import Derived.Lib.Hide
import Derived.WalkSpells
import Derived.WalkLawsBesides
import Derived.IntWalk
import Derived.Maps.OwnOps
import Derived.Maps.OwnSet
import Derived.StringKeys
import Derived.Test.YtghohohagbbajaaGreatDoorProg
import Derived.Test.YtghohohagbbajaaGreatDoorYJ
import Derived.Test.YtghohohagbbajaaGreatDoorYK
import Derived.Test.YtghohohagbbajaaGreatDoorShelf
import Derived.Test.YtghohohagbbajaaGreatDoorYB
set_option linter.unusedVariables false
set_option linter.unusedSimpArgs false
set_option linter.unusedSectionVars false
namespace Go.Proofs.YtghohohagbbajaaGreatDoor
open Go.RowKit Go.Lib
open Lx (Tk)
structure Ctx where
 R:Nat
 Tb:Nat
 Kb:Nat
 Sb:Nat
 size:Nat
def tokCells (t:Tk):List Value:=[.int .i64 t.kind,.string ⟨t.text.toArray⟩,.int .i64 t.num,.int .i64 t.off]
def TokV (w:World) (Tb:Nat) (v:Value) (ts:List Tk):Prop :=
 (ts=[]∧∃ a cap,v=.slice a 0 cap) ∨
 (ts≠[]∧∃ o cap,v=.slice (some ⟨Tb,o,none⟩) ts.length cap∧ts.length≤cap∧∀ i t,ts[i]?=some t→∀ j,j<4→w.cell? ⟨Tb,o+i * 4+j,none⟩=(tokCells t)[j]?)
def KeysAt (w:World) (m:Nat):Prop :=
 ∃ (n:Nat) (D:DataW Unit),w.ownsMap Tryz.prog 9 (plainElem Tryz.prog 4) m n D∧∀ l:List UInt8,D.atKey (.string l) (.lit (.bool false))=.lit (.bool (Px.keyB l))
def fnNum (k:Nat):Nat :=
 if k=1 then 40 else if k=3 then 41 else if k=4 then 42 else if k=5 then 43
 else if k=6 then 44 else if k=8 then 46 else if k=11 then 47 else if k=12 then 48
 else if k=13 then 49 else 45
def formV (k:Nat):Value:=.agg #[.int .i64 k,if k=0 then .nilFunc else .func (.func (fnNum k)) #[] #[]]
def formKinds:List Nat:=[0,1,3,4,5,6,7,8,9,10,11,12,13]
noncomputable def isForm (v:Value) (k:Nat):Bool:=@decide (v=formV k) (Classical.propDecidable _)
theorem isForm_iff {v:Value} {k:Nat} : isForm v k=true ↔ v=formV k:=@decide_eq_true_iff _ (Classical.propDecidable _)
noncomputable def formElem (v:Value):Option (DataW Unit × List MemPlace) :=
 Option.map (fun k:Nat=>(DataW.lit (Lit.int .i64 (k:Int)),([]:List MemPlace))) (formKinds.find? (isForm v))
theorem formV_inj {j k:Nat} (h:formV j=formV k):j=k:=by
 have h1:(formV j).cells[0]?=(formV k).cells[0]?:=by rw[h]
 simp[formV,Value.cells] at h1
 omega
theorem formElem_mk (k:Nat) (h:k∈formKinds):formElem (formV k)=some (.lit (.int .i64 k),[]):=by
 unfold formElem
 cases hf:formKinds.find? (isForm (formV k)) with
 | none =>
  have:=List.find?_eq_none.1 hf k h
  exact absurd (isForm_iff.2 rfl) this
 | some j =>
  have h1:=List.find?_some hf
  rw[formV_inj (isForm_iff.1 h1)];rfl
theorem formElem_inv {v:Value} {k:Int} {ps:List MemPlace} (h:formElem v=some (.lit (.int .i64 k),ps)):∃ j:Nat,k=j∧v=formV j:=by
 unfold formElem at h
 rw[Option.map_eq_some_iff] at h
 obtain⟨j,hj,he⟩:=h
 have h1:=List.find?_some hj
 refine⟨j,?_,isForm_iff.1 h1⟩
 simp only[Prod.mk.injEq,DataW.lit.injEq,Lit.int.injEq] at he
 omega
def kindAt (l:List UInt8):Nat:=if Px.formOf l=2 then 0 else Px.formOf l
def FormsAt (w:World) (m:Nat):Prop :=
 ∃ (n:Nat) (D:DataW Unit),w.ownsMap Tryz.prog 9 formElem m n D∧∀ l:List UInt8,D.atKey (.string l) (.lit (.int .i64 0))=.lit (.int .i64 (kindAt l))∧Maps.has D (.string l)=!(Px.formOf l == 2)
structure Inv (c:Ctx) (ts:List Tk) (w:World):Prop where
 reader:∃ tv,Blk w c.R 78 #[tv,.int .i64 c.size,.map (some c.Kb),.map (some c.Sb)]∧TokV w c.Tb tv ts
 keys:KeysAt w c.Kb
 forms:FormsAt w c.Sb
 tb:c.Tb<w.heap.size
 ne:c.Tb≠c.R∧c.Kb≠c.R∧c.Sb≠c.R
 few:ts.length≤6000
 size:c.size≤20000
 nums:∀ t∈ts,t.num≤1000000000
 words:∀ t∈ts,t.text.length≤20000
theorem Inv.lt {c:Ctx} {ts:List Tk} {w:World} (h:Inv c ts w):c.R<w.heap.size∧c.Tb<w.heap.size∧c.Kb<w.heap.size∧c.Sb<w.heap.size:=by
 obtain⟨_,hb,_⟩:=h.reader
 obtain⟨_,_,hk,_⟩:=h.keys
 obtain⟨_,_,hf,_⟩:=h.forms
 exact⟨hb.lt,h.tb,hk.lt,hf.lt⟩
theorem ownsMap_same {P:Program} {k:TypeId} {R:Value→Option (DataW Unit × List MemPlace)} {m n:Nat} {D:DataW Unit} {w w':World} (h:w.ownsMap P k R m n D) (hs:w'.heap[m]?=w.heap[m]?):w'.ownsMap P k R m n D:=by
 obtain⟨es,clock,hb,F,hs',hD⟩:=h
 exact⟨es,clock,hs.trans hb,F,hs',hD⟩
theorem TokV.same {w w':World} {Tb:Nat} {v:Value} {ts:List Tk} (h:TokV w Tb v ts) (hs:w'.heap[Tb]?=w.heap[Tb]?):TokV w' Tb v ts:=by
 rcases h with h|⟨hne,o,cap,h1,h2,h3⟩
 ·exact .inl h
 ·exact .inr ⟨hne,o,cap,h1,h2,fun i t hi j hj=>(World.cell?_of_block (w:=w) hs).trans (h3 i t hi j hj)⟩
theorem Inv.same {c:Ctx} {ts:List Tk} {w w':World} (h:Inv c ts w) (hz:w.heap.size≤w'.heap.size) (hs:∀ k,k=c.R∨k=c.Tb∨k=c.Kb∨k=c.Sb→w'.heap[k]?=w.heap[k]?):Inv c ts w':=by
 obtain⟨tv,hb,ht⟩:=h.reader
 obtain⟨n,D,hk,hk2⟩:=h.keys
 obtain⟨n',D',hf,hf2⟩:=h.forms
 exact⟨⟨tv,(hs _ (.inl rfl)).trans hb,ht.same (hs _ (.inr (.inl rfl)))⟩,⟨n,D,ownsMap_same hk (hs _ (.inr (.inr (.inl rfl)))),hk2⟩,⟨n',D',ownsMap_same hf (hs _ (.inr (.inr (.inr rfl)))),hf2⟩,Nat.lt_of_lt_of_le h.tb hz,h.ne,h.few,h.size,h.nums,h.words⟩
theorem Inv.alloc {c:Ctx} {ts:List Tk} {w:World} (h:Inv c ts w) (o:Obj):Inv c ts (w.alloc o) :=
 h.same (by simp) (fun k hk=>Below.heap_alloc _ _ _ (by rcases hk with rfl|rfl|rfl|rfl;exact h.lt.1;exact h.lt.2.1;exact h.lt.2.2.1;exact h.lt.2.2.2))
theorem Inv.drewN {c:Ctx} {ts:List Tk} {w:World} (h:Inv c ts w) (n:Nat):Inv c ts (w.drewN n):=h.same (Nat.le_refl _) (fun _ _=>rfl)
theorem Inv.drew {c:Ctx} {ts:List Tk} {w:World} (h:Inv c ts w):Inv c ts w.drew:=h.same (Nat.le_refl _) (fun _ _=>rfl)
theorem Inv.set {c:Ctx} {ts ts0:List Tk} {w w0:World} (h:Inv c ts w) (h0:Inv c ts0 w0) {p:Addr} (hp:w0.heap.size≤p.block) (u:Value):Inv c ts (w.setCell p u) :=
 h.same (by simp[World.setCell]) (fun k hk=>Below.heap_setCell _ _ _ _ (by have:=h0.lt;rcases hk with rfl|rfl|rfl|rfl <;> omega))
theorem Inv.fr {c:Ctx} {ts ts0:List Tk} {w w' w0:World} {X:List Nat} (h:Inv c ts w) (h0:Inv c ts0 w0) (hf:Fr X w w') (hX:∀ k∈X,w0.heap.size≤k):Inv c ts w' :=
 h.same hf.size (fun k hk=>hf.block k (by have:=h.lt;rcases hk with rfl|rfl|rfl|rfl <;> omega) (fun hx=>by have:=hX k hx;have:=h0.lt;rcases hk with rfl|rfl|rfl|rfl <;> omega))
def errOf:List Tk→Nat
 | []=>5
 | _ :: _=>4
def offOf (sz:Nat):List Tk→Nat
 | []=>sz
 | t :: _=>t.off
def failE (c:Ctx) (ts:List Tk):PanicEntry:={ v:=.iface 81 (.agg #[.int .i64 (errOf ts),.int .i64 (offOf c.size ts)]),recovered:=false }
def RP {α:Type} (c:Ctx) (w:World) (okv:Nat→α→World→Value→Prop) (r:Px.Res α) (e:Ending) (w':World):Prop :=
 Fr [c.R] w w' ∧
 match r with
 | .ok a ts=>Inv c ts w'∧∃ v,e=.returned v∧okv w.heap.size a w' v
 | .bad ts=>Inv c ts w'∧e=.panicked [failE c ts]
theorem RP.cases {α:Type} {c:Ctx} {w w':World} {okv:Nat→α→World→Value→Prop} {r:Px.Res α} {e:Ending} (h:RP c w okv r e w') :
  (∃ a ts v,Hid (r=.ok a ts)∧Fr [c.R] w w'∧Inv c ts w'∧e=.returned v∧okv w.heap.size a w' v)∨(∃ ts,Hid (r=.bad ts)∧Fr [c.R] w w'∧Inv c ts w'∧e=.panicked [failE c ts]):=by
 obtain⟨h1,h2⟩:=h
 cases r with
 | ok a ts=>obtain⟨h3,v,h4,h5⟩:=h2;exact .inl ⟨a,ts,v,hid rfl,h1,h3,h4,h5⟩
 | bad ts=>exact .inr ⟨ts,hid rfl,h1,h2.1,h2.2⟩
theorem RP.ok {α:Type} {c:Ctx} {w w':World} {okv:Nat→α→World→Value→Prop} {r:Px.Res α} {v:Value} {a:α} {ts:List Tk} (hr:r=.ok a ts) (h1:Fr [c.R] w w') (h2:Inv c ts w') (h3:okv w.heap.size a w' v):RP c w okv r (.returned v) w':=by
 subst hr;exact⟨h1,h2,v,rfl,h3⟩
theorem RP.bad {α:Type} {c:Ctx} {w w':World} {okv:Nat→α→World→Value→Prop} {r:Px.Res α} {ts:List Tk} (hr:r=.bad ts) (h1:Fr [c.R] w w') (h2:Inv c ts w'):RP c w okv r (.panicked [failE c ts]) w':=by
 subst hr;exact⟨h1,h2,rfl⟩
def okStr:Nat→Px.Txt→World→Value→Prop:=fun _ t _ v=>v=.string ⟨t.toArray⟩
def okBool:Nat→Bool→World→Value→Prop:=fun _ b _ v=>v=.bool b
def okNat:Nat→Nat→World→Value→Prop:=fun _ n _ v=>v=.int .i64 n
def okInt:Nat→Int→World→Value→Prop:=fun _ n _ v=>v=.int .i64 n
theorem Inv.cells {c:Ctx} {ts:List Tk} {w:World} (h:Inv c ts w):∃ a cap,w.cell? ⟨c.R,0,none⟩=some (.slice a ts.length cap)∧w.cell? ⟨c.R,1,none⟩=some (.int .i64 c.size)∧w.frozen? ⟨c.R,0,none⟩=false∧ts.length≤6000 ∧
  ∀ t r,ts=t :: r→∃ o,a=some ⟨c.Tb,o,none⟩∧ts.length≤cap∧w.cell? ⟨c.Tb,o,none⟩=some (.int .i64 t.kind)∧w.cell? ⟨c.Tb,o+1,none⟩=some (.string ⟨t.text.toArray⟩)∧w.cell? ⟨c.Tb,o+2,none⟩=some (.int .i64 t.num)∧w.cell? ⟨c.Tb,o+3,none⟩=some (.int .i64 t.off):=by
 obtain⟨tv,hb,ht⟩:=h.reader
 rcases ht with ⟨rfl,a,cap,rfl⟩|⟨hne,o,cap,rfl,h2,h3⟩
 ·exact⟨a,cap,hb.cell 0,hb.cell 1,hb.frozen 0,by simp,fun t r e=>by cases e⟩
 ·refine⟨_,cap,hb.cell 0,hb.cell 1,hb.frozen 0,h.few,?_⟩
  rintro t r rfl
  have g:=h3 0 t rfl
  refine⟨o,rfl,h2,?_,?_,?_,?_⟩
  ·exact g 0 (by omega)
  ·exact g 1 (by omega)
  ·exact g 2 (by omega)
  ·exact g 3 (by omega)
theorem done_nil (c:Ctx) (w:World) (h:Inv c [] w):Calls Tryz.prog 52 #[.pointer (some ⟨c.R,0,none⟩)] w fun e w'=>e=.returned (.bool true)∧w=w':=by
 obtain⟨a,cap,h0,_,_,_,_⟩:=h.cells
 simp only[List.length_nil] at h0
 clear h
 go_enter Tryz.func52,Tryz.ntmps52
 go_wp2
 go_ret
 exact⟨rfl,rfl⟩
theorem done_cons (c:Ctx) (t:Tk) (r:List Tk) (w:World) (h:Inv c (t :: r) w):Calls Tryz.prog 52 #[.pointer (some ⟨c.R,0,none⟩)] w fun e w'=>e=.returned (.bool false)∧w=w':=by
 obtain⟨a,cap,h0,_,_,_,_⟩:=h.cells
 simp only[List.length_cons] at h0
 have hd:(((r.length+1:Nat):Int) == 0)=false:=by simp;omega
 clear h
 go_enter Tryz.func52,Tryz.ntmps52
 go_wp2
 go_ret
 exact⟨rfl,rfl⟩
theorem word_any (c:Ctx) (ts:List Tk) (w:World) (h:Inv c ts w):Calls Tryz.prog 85 #[.pointer (some ⟨c.R,0,none⟩)] w fun e w'=>e=.returned (.string ⟨(Px.word ts).toArray⟩)∧w=w':=by
 obtain⟨a,cap,h0,_,_,_,hc⟩:=h.cells
 cases ts with
 | nil =>
  have H:=hid h
  clear h hc
  go_enter Tryz.func85,Tryz.ntmps85
  go_wp2_with (refine(done_nil c _ H.out).mono ?_;rintro e w' ⟨rfl,rfl⟩)
  go_ret
  exact⟨rfl,rfl⟩
 | cons t r =>
  obtain⟨o,rfl,hcap,h1,h2,h3,h4⟩:=hc t r rfl
  have H:=hid h
  clear h hc
  simp only[List.length_cons] at h0 hcap
  go_enter Tryz.func85,Tryz.ntmps85
  go_wp2_with (refine(done_cons c t r _ H.out).mono ?_;rintro e w' ⟨rfl,rfl⟩)
  go_ret
  exact⟨rfl,rfl⟩
theorem offset_any (c:Ctx) (ts:List Tk) (w:World) (h:Inv c ts w):Calls Tryz.prog 19 #[.pointer (some ⟨c.R,0,none⟩)] w fun e w'=>e=.returned (.int .i64 (offOf c.size ts))∧w=w':=by
 obtain⟨a,cap,h0,hz,_,_,hc⟩:=h.cells
 cases ts with
 | nil =>
  have H:=hid h
  clear h hc
  go_enter Tryz.func19,Tryz.ntmps19
  go_wp2_with (refine(done_nil c _ H.out).mono ?_;rintro e w' ⟨rfl,rfl⟩)
  go_ret
  exact⟨rfl,rfl⟩
 | cons t r =>
  obtain⟨o,rfl,hcap,h1,h2,h3,h4⟩:=hc t r rfl
  have H:=hid h
  clear h hc
  simp only[List.length_cons] at h0 hcap
  go_enter Tryz.func19,Tryz.ntmps19
  go_wp2_with (refine(done_cons c t r _ H.out).mono ?_;rintro e w' ⟨rfl,rfl⟩)
  go_ret
  exact⟨rfl,rfl⟩
theorem refuse_any (c:Ctx) (ts:List Tk) (w:World) (h:Inv c ts w):Calls Tryz.prog 86 #[.pointer (some ⟨c.R,0,none⟩)] w fun e w'=>e=.panicked [failE c ts]∧w=w':=by
 have H:=hid h
 clear h
 cases ts with
 | nil =>
  go_enter Tryz.func86,Tryz.ntmps86
  go_wp2_with (first|(go_at_call 52;refine(done_nil c _ H.out).mono ?_;rintro e w' ⟨rfl,rfl⟩)|(go_at_call 19;refine(offset_any c _ _ H.out).mono ?_;rintro e w' ⟨rfl,rfl⟩))
  exact⟨rfl,rfl,rfl⟩
 | cons t r =>
  go_enter Tryz.func86,Tryz.ntmps86
  go_wp2_with (first|(go_at_call 52;refine(done_cons c t r _ H.out).mono ?_;rintro e w' ⟨rfl,rfl⟩)|(go_at_call 19;refine(offset_any c _ _ H.out).mono ?_;rintro e w' ⟨rfl,rfl⟩))
  exact⟨rfl,rfl,rfl⟩
theorem Inv.tail {c:Ctx} {t:Tk} {r:List Tk} {w:World} (h:Inv c (t :: r) w):∃ o cap,w.cell? ⟨c.R,0,none⟩=some (.slice (some ⟨c.Tb,o,none⟩) (r.length+1) cap)∧r.length+1≤cap∧r.length+1≤6000 ∧
  w.cell? ⟨c.Tb,o,none⟩=some (.int .i64 t.kind)∧w.cell? ⟨c.Tb,o+1,none⟩=some (.string ⟨t.text.toArray⟩)∧w.cell? ⟨c.Tb,o+2,none⟩=some (.int .i64 t.num)∧w.cell? ⟨c.Tb,o+3,none⟩=some (.int .i64 t.off) ∧
  (∀ a,(r≠[]→a=some ⟨c.Tb,o+4,none⟩)→∀ w2,Fr [] w w2→Inv c r (w2.setCell ⟨c.R,0,none⟩ (.slice a r.length (cap - 1)))∧Fr [c.R] w (w2.setCell ⟨c.R,0,none⟩ (.slice a r.length (cap - 1)))):=by
 obtain⟨tv,hb,ht⟩:=h.reader
 rcases ht with ⟨h0,_⟩|⟨hne,o,cap,rfl,h2,h3⟩
 ·cases h0
 ·have g:=h3 0 t rfl
  refine⟨o,cap,hb.cell 0,h2,h.few,g 0 (by omega),g 1 (by omega),g 2 (by omega),g 3 (by omega),fun a ha w2 hf=>⟨?_,(hf.mono (fun k _ hk=>by cases hk)).setCell (.inl (by simp)) _⟩⟩
  have h':Inv c (t :: r) w2:=h.same hf.size (fun k hk=>hf.block k (by have:=h.lt;rcases hk with rfl|rfl|rfl|rfl <;> omega) (by simp))
  obtain⟨n,D,hk,hk2⟩:=h'.keys
  obtain⟨n',D',hf',hf2⟩:=h'.forms
  have hs:∀ k,k≠c.R→(w2.setCell ⟨c.R,0,none⟩ (.slice a r.length (cap - 1))).heap[k]?=w2.heap[k]?:=fun k hk=>Below.heap_setCell _ _ _ _ hk
  refine⟨⟨_,(hb.keep hf (by simp)).set 0 _,?_⟩,⟨n,D,ownsMap_same hk (hs _ h.ne.2.1),hk2⟩,⟨n',D',ownsMap_same hf' (hs _ h.ne.2.2),hf2⟩,by simp[World.setCell];exact h'.tb,h.ne,by have:=h.few;simp at this;omega,h.size,fun t ht=>h.nums t (List.mem_cons_of_mem _ ht),fun t ht=>h.words t (List.mem_cons_of_mem _ ht)⟩
  cases r with
  | nil=>exact .inl ⟨rfl,a,cap - 1,rfl⟩
  | cons t' r =>
   refine .inr ⟨by simp,o+4,cap - 1,by rw[ha (by simp)],by simp at h2 ⊢;omega,fun i u hi j hj=>?_⟩
   rw[World.cell?_of_block (w:=w) (a:=⟨c.Tb,o+4+i * 4+j,none⟩) ((hs _ h.ne.1).trans (hf.block _ h.tb (by simp)))]
   have:=h3 (i+1) u hi j hj
   rw[← this]
   congr 2
   omega
def tokV (t:Tk):Value:=.agg #[.int .i64 t.kind,.string ⟨t.text.toArray⟩,.int .i64 t.num,.int .i64 t.off]
theorem take_any (c:Ctx) (t:Tk) (r:List Tk) (w:World) (h:Inv c (t :: r) w):Calls Tryz.prog 88 #[.pointer (some ⟨c.R,0,none⟩)] w fun e w'=>e=.returned (tokV t)∧Fr [c.R] w w'∧Inv c r w':=by
 obtain⟨o,cap,h0,hcap,hlen,h1,h2,h3,h4,hT⟩:=h.tail
 have hR:=h.lt.1
 have hTb:=h.lt.2.1
 have hne:=h.ne.1
 have hf:w.frozen? ⟨c.R,0,none⟩=false:=by obtain⟨_,_,_,_,hf,_⟩:=h.cells;exact hf
 have HT:=hid hT
 have H:=hid h
 have HNE:=hid hne
 clear h hT hne
 go_enter Tryz.func88,Tryz.ntmps88
 go_wp2
 ·have hc1:cap=1:=by assumption
  subst hc1
  have hr:r=[]:=by cases r with|nil=>rfl|cons _ _=>simp at hcap
  subst hr
  refine bodyPost_ret (v:=tokV t) (by simp[results,Tryz.results88,go_sem,tokV]) rfl ⟨rfl,?_⟩
  have g:=HT.out (some ⟨c.Tb,o,none⟩) (fun h=>absurd rfl h) w (Fr.refl _ _)
  exact⟨(g.2.alloc _).alloc _,(g.1.alloc _).alloc _⟩
 ·refine bodyPost_ret (v:=tokV t) (by simp[results,Tryz.results88,go_sem,tokV]) rfl ⟨rfl,?_⟩
  have g:=HT.out (some ⟨c.Tb,o+4,none⟩) (fun _=>rfl) w (Fr.refl _ _)
  exact⟨(g.2.alloc _).alloc _,(g.1.alloc _).alloc _⟩
theorem isNext_nil (c:Ctx) (k:Int) (w:World) (h:Inv c [] w):Calls Tryz.prog 87 #[.pointer (some ⟨c.R,0,none⟩),.int .i64 k] w fun e w'=>e=.returned (.bool false)∧w=w':=by
 have H:=hid h
 clear h
 go_enter Tryz.func87,Tryz.ntmps87
 go_wp2_with (refine(done_nil c _ H.out).mono ?_;rintro e w' ⟨rfl,rfl⟩)
 go_ret
 exact⟨rfl,rfl⟩
theorem isNext_cons (c:Ctx) (t:Tk) (r:List Tk) (k:Int) (w:World) (h:Inv c (t :: r) w):Calls Tryz.prog 87 #[.pointer (some ⟨c.R,0,none⟩),.int .i64 k] w fun e w'=>e=.returned (.bool ((t.kind:Int) == k))∧w=w':=by
 obtain⟨a,cap,h0,_,_,_,hc⟩:=h.cells
 obtain⟨o,rfl,hcap,h1,h2,h3,h4⟩:=hc t r rfl
 have H:=hid h
 clear h hc
 simp only[List.length_cons] at h0 hcap
 go_enter Tryz.func87,Tryz.ntmps87
 go_wp2_with (refine(done_cons c t r _ H.out).mono ?_;rintro e w' ⟨rfl,rfl⟩)
 go_ret
 exact⟨rfl,rfl⟩
def strV (t:Px.Txt):Value:=.string ⟨t.toArray⟩
theorem contains_iff (ws:List Px.Txt) (x:Px.Txt):Lib.containsS (ws.map fun t=>(⟨t.toArray⟩:ByteArray)) ⟨x.toArray⟩=ws.contains x:=by
 rw[Bool.eq_iff_iff,Lib.containsS_iff]
 simp
theorem contains_call (c:Ctx) (ws:List Px.Txt) (x:Px.Txt) (w:World) (b k:Nat) (hk:k=ws.length) (hB:Blk w b 9 (ws.map strV).toArray) (h0:ws.length≤100) :
  Calls Tryz.prog 89 #[.slice (some ⟨b,0,none⟩) k k,.string ⟨x.toArray⟩] w fun e w'=>e=.returned (.bool (ws.contains x))∧w=w':=by
 subst hk
 refine(Tryz.slices_Contains_string b 0 ws.length ws.length (ws.map fun t=>(⟨t.toArray⟩:ByteArray)) ⟨x.toArray⟩ w (by simp) (by omega) ?_).mono ?_
 ·intro j hj
  rw[List.length_map] at hj
  rw[Nat.zero_add,hB.cell j]
  simp[strV,hj,List.getD]
 ·rintro e w' ⟨rfl,rfl⟩
  rw[show ws.length=(ws.map fun t=>(⟨t.toArray⟩:ByteArray)).length by simp,List.take_length,contains_iff]
  exact⟨rfl,rfl⟩
theorem accept_any (c:Ctx) (ts:List Tk) (ws:List Px.Txt) (w:World) (b k:Nat) (h:Inv c ts w) (hk:k=ws.length) (hB:Blk w b 9 (ws.map strV).toArray) (hne:ws.contains []=false) (h0:ws.length≤100) :
  Calls Tryz.prog 55 #[.pointer (some ⟨c.R,0,none⟩),.slice (some ⟨b,0,none⟩) k k] w (RP c w okBool (Px.accept ws ts)):=by
 by_cases hc:ws.contains (Px.word ts)=true
 ·cases ts with
  | nil=>exact absurd hc (by simp only[Px.word];rw[hne];decide)
  | cons t r =>
   have hs:Px.accept ws (t :: r)=.ok true r:=by simp only[Px.accept];rw[if_pos hc];rfl
   have HC:=contains_call c ws (Px.word (t :: r)) w b k hk hB h0
   rw[hc] at HC
   have HH:=hid HC
   have HS:=hid hs
   have H:=hid h
   clear h hs hc HC hB hne h0 hk
   go_enter Tryz.func55,Tryz.ntmps55
   go_wp2_with fail
   refine(word_any c _ w H.out).mono ?_
   rintro e w' ⟨rfl,rfl⟩
   go_wp2_with fail
   refine HH.out.mono ?_
   rintro e w' ⟨rfl,rfl⟩
   go_wp2_with fail
   refine(take_any c t r _ H.out).mono ?_
   rintro e w' ⟨rfl,hf,hi⟩
   go_wp2_with fail
   go_ret
   exact RP.ok HS.out hf hi rfl
 ·have hc':ws.contains (Px.word ts)=false:=by simpa using hc
  have hs:Px.accept ws ts=.ok false ts:=by simp only[Px.accept];rw[if_neg hc]
  have HC:=contains_call c ws (Px.word ts) w b k hk hB h0
  rw[hc'] at HC
  have HH:=hid HC
  have HS:=hid hs
  have H:=hid h
  clear h hs hc HC hB hne h0 hk hc'
  go_enter Tryz.func55,Tryz.ntmps55
  go_wp2_with fail
  refine(word_any c _ w H.out).mono ?_
  rintro e w' ⟨rfl,rfl⟩
  go_wp2_with fail
  refine HH.out.mono ?_
  rintro e w' ⟨rfl,rfl⟩
  go_wp2_with fail
  go_ret
  exact RP.ok HS.out (Fr.refl _ _) H.out rfl
theorem expect_any (c:Ctx) (ts:List Tk) (ws:List Px.Txt) (w:World) (b k:Nat) (h:Inv c ts w) (hk:k=ws.length) (hB:Blk w b 9 (ws.map strV).toArray) (hne:ws.contains []=false) (h0:ws.length≤100) :
  Calls Tryz.prog 53 #[.pointer (some ⟨c.R,0,none⟩),.slice (some ⟨b,0,none⟩) k k] w (RP c w okStr (Px.expect ws ts)):=by
 have HA:=hid (accept_any c ts ws w b k h hk hB hne h0)
 by_cases hc:ws.contains (Px.word ts)=true
 ·have hs:Px.accept ws ts=.ok true ts.tail:=by simp only[Px.accept];rw[if_pos hc]
  have hs2:Px.expect ws ts=.ok (Px.word ts) ts.tail:=by simp only[Px.expect];rw[if_pos hc]
  have HS:=hid hs
  have HS2:=hid hs2
  have H:=hid h
  clear h hs hs2 hc hB hne h0 hk
  go_enter Tryz.func53,Tryz.ntmps53
  go_wp2_with fail
  refine(word_any c _ w H.out).mono ?_
  rintro e w' ⟨rfl,rfl⟩
  go_wp2_with fail
  refine HA.out.mono ?_
  rintro e w1 hp
  rw[HS.out] at hp
  obtain⟨hf,hi,v,rfl,rfl⟩:=hp
  go_wp2_with fail
  go_ret
  exact RP.ok HS2.out hf hi rfl
 ·have hs:Px.accept ws ts=.ok false ts:=by simp only[Px.accept];rw[if_neg hc]
  have hs2:Px.expect ws ts=.bad ts:=by simp only[Px.expect];rw[if_neg hc]
  have HS:=hid hs
  have HS2:=hid hs2
  have H:=hid h
  clear h hs hs2 hc hB hne h0 hk
  go_enter Tryz.func53,Tryz.ntmps53
  go_wp2_with fail
  refine(word_any c _ w H.out).mono ?_
  rintro e w' ⟨rfl,rfl⟩
  go_wp2_with fail
  refine HA.out.mono ?_
  rintro e w1 hp
  rw[HS.out] at hp
  obtain⟨hf,hi,v,rfl,rfl⟩:=hp
  go_wp2_with fail
  refine(refuse_any c _ _ hi).mono ?_
  rintro e w' ⟨rfl,rfl⟩
  go_wp2_with fail
  exact⟨rfl,RP.bad HS2.out hf hi⟩
theorem size_le (t:Px.Txt) (h:t.length≤20000):(⟨t.toArray⟩:ByteArray).size≤maxLen:=by
 rw[show (⟨t.toArray⟩:ByteArray).size=t.length from List.size_toArray]
 exact Nat.le_trans h (by unfold maxLen;decide)
theorem keys_look (c:Ctx) (ts:List Tk) (w:World) (h:Inv c ts w) (t:Px.Txt) (ht:t.length≤20000) (n:Nat) :
  (Instr.lookup 74 (.map (some c.Kb)) (.string ⟨t.toArray⟩) false).run Tryz.prog (w.drewN n)=.ok (.bool (Px.keyB t)) (w.drewN n):=by
 obtain⟨k,D,hown,hat⟩:=(h.drewN n).keys
 obtain⟨v,ps,hrun,hv⟩:=hown.lookup keyed9 Tryz.underlying74 (zero4 _) (plainElem_bool Tryz.underlying4 false) (kl:=.string t) (WideMaps.keyOf_string_mk Tryz.underlying9 (size_le t ht))
 obtain⟨y,rfl,hy⟩:=plainElem_bool_inv Tryz.underlying4 hv
 simp only[Prod.mk.injEq] at hy
 have:y=Px.keyB t:=by have:=hy.1.symm.trans (hat t);simpa using this
 rw[hrun,this]
theorem field_text:∀ (a b d e:Value) (w:World),(Instr.field 73 (.agg #[a,b,d,e]) 1).run Tryz.prog w=.ok b w:=fun _ _ _ _ _=>by kernel_rfl
theorem field_num:∀ (a b d e:Value) (w:World),(Instr.field 73 (.agg #[a,b,d,e]) 2).run Tryz.prog w=.ok d w:=fun _ _ _ _ _=>by kernel_rfl
theorem name_no (c:Ctx) (ts:List Tk) (w:World) (h:Inv c ts w) (hn:∀ t r,ts=t :: r→t.kind≠1) :
  Calls Tryz.prog 54 #[.pointer (some ⟨c.R,0,none⟩)] w (RP c w okStr (Px.name ts)):=by
 have hs:Px.name ts=.bad ts:=by
  cases ts with
  | nil=>rfl
  | cons t r=>simp only[Px.name];rw[if_neg (fun h=>hn t r rfl h.1)]
 have hx:∀ n,Calls Tryz.prog 87 #[.pointer (some ⟨c.R,0,none⟩),.int .i64 1] (w.drewN n) fun e w'=>e=.returned (.bool false)∧w'=w.drewN n:=by
  intro n
  cases ts with
  | nil=>exact(isNext_nil c 1 _ (h.drewN n)).mono fun _ _ h=>⟨h.1,h.2.symm⟩
  | cons t r =>
   have:=isNext_cons c t r 1 _ (h.drewN n)
   rw[show ((t.kind:Int) == 1)=false by have:=hn t r rfl;simp;omega] at this
   exact this.mono fun _ _ h=>⟨h.1,h.2.symm⟩
 have HS:=hid hs
 have H:=hid h
 have HX:=hid hx
 clear h hs hn hx
 go_enter Tryz.func54,Tryz.ntmps54
 go_wp2_with fail
 go_quiet ((go_at_call 87;exact Calls.quiet_of_same (HX.out _)))
 go_wp2_with fail
 refine(refuse_any c ts _ (H.out.drewN _)).mono ?_
 rintro e w' ⟨rfl,rfl⟩
 go_wp2_with fail
 exact⟨rfl,RP.bad HS.out ((Fr.refl _ _).drewN _) (H.out.drewN _)⟩
set_option maxRecDepth 100000 in
theorem name_key (c:Ctx) (t:Tk) (r:List Tk) (w:World) (h:Inv c (t :: r) w) (h1:t.kind=1) (hl:t.text.length≤20000) :
  Calls Tryz.prog 54 #[.pointer (some ⟨c.R,0,none⟩)] w (RP c w okStr (Px.name (t :: r))):=by
 have hx:∀ n,Calls Tryz.prog 87 #[.pointer (some ⟨c.R,0,none⟩),.int .i64 1] (w.drewN n) fun e w'=>e=.returned (.bool true)∧w'=w.drewN n:=by
  intro n
  have:=isNext_cons c t r 1 _ (h.drewN n)
  rw[show ((t.kind:Int) == 1)=true by rw[h1];rfl] at this
  exact this.mono fun _ _ h=>⟨h.1,h.2.symm⟩
 have hw:∀ n,Calls Tryz.prog 85 #[.pointer (some ⟨c.R,0,none⟩)] (w.drewN n) fun e w'=>e=.returned (.string ⟨t.text.toArray⟩)∧w'=w.drewN n :=
  fun n=>(word_any c (t :: r) _ (h.drewN n)).mono fun _ _ h=>⟨h.1,h.2.symm⟩
 have hlk:=keys_look c _ w h t.text hl
 obtain⟨tv,hb,_⟩:=h.reader
 have hk:w.cell? ⟨c.R,2,none⟩=some (.map (some c.Kb)):=hb.cell 2
 clear hb
 cases hq:Px.keyB t.text with
 | true =>
  have hs:Px.name (t :: r)=.bad (t :: r):=by simp only[Px.name];rw[if_neg (by simp[hq])]
  rw[hq] at hlk
  have HS:=hid hs
  have H:=hid h
  have HX:=hid hx
  have HW:=hid hw
  clear h hs h1 hx hw hq hl
  go_enter Tryz.func54,Tryz.ntmps54
  go_wp2_with fail
  go_quiet ((first|(go_at_call 87;exact Calls.quiet_of_same (HX.out _))|(go_at_call 85;exact Calls.quiet_of_same (HW.out _))))
  go_wp2_with fail
  refine(refuse_any c _ _ (H.out.drewN _)).mono ?_
  rintro e w' ⟨rfl,rfl⟩
  go_wp2_with fail
  exact⟨rfl,RP.bad HS.out ((Fr.refl _ _).drewN _) (H.out.drewN _)⟩
 | false =>
  have hs:Px.name (t :: r)=.ok t.text r:=by simp only[Px.name];rw[if_pos ⟨h1,hq⟩]
  rw[hq] at hlk
  have HS:=hid hs
  have H:=hid h
  have HX:=hid hx
  have HW:=hid hw
  clear h hs h1 hx hw hq hl
  go_enter Tryz.func54,Tryz.ntmps54
  go_wp2_with fail
  go_quiet ((first|(go_at_call 87;exact Calls.quiet_of_same (HX.out _))|(go_at_call 85;exact Calls.quiet_of_same (HW.out _))))
  go_wp2_with fail
  refine(take_any c t r _ (H.out.drewN _)).mono ?_
  rintro e w' ⟨rfl,hf,hi⟩
  unfold tokV
  have hfd:=field_text
  go_wp2_with fail
  go_ret
  exact RP.ok HS.out (((Fr.refl _ _).drewN _).trans hf) hi rfl
theorem name_any (c:Ctx) (ts:List Tk) (w:World) (h:Inv c ts w) :
  Calls Tryz.prog 54 #[.pointer (some ⟨c.R,0,none⟩)] w (RP c w okStr (Px.name ts)):=by
 cases ts with
 | nil=>exact name_no c _ w h (fun t r e=>by cases e)
 | cons t r =>
  by_cases h1:t.kind=1
  ·exact name_key c t r w h h1 (h.words t (by simp))
  ·exact name_no c _ w h (fun t' r' e=>by cases e;exact h1)
set_option maxRecDepth 100000 in
theorem number_any (c:Ctx) (ts:List Tk) (w:World) (h:Inv c ts w) :
  Calls Tryz.prog 129 #[.pointer (some ⟨c.R,0,none⟩)] w (RP c w okNat (Px.number ts)):=by
 cases ts with
 | nil =>
  have H:=hid h
  clear h
  go_enter Tryz.func129,Tryz.ntmps129
  go_wp2_with fail
  refine(isNext_nil c 2 w H.out).mono ?_
  rintro e w' ⟨rfl,rfl⟩
  go_wp2_with fail
  refine(refuse_any c [] _ H.out).mono ?_
  rintro e w' ⟨rfl,rfl⟩
  go_wp2_with fail
  exact⟨rfl,RP.bad rfl (Fr.refl _ _) H.out⟩
 | cons t r =>
  have hx:=isNext_cons c t r 2 w h
  by_cases h1:t.kind=2
  ·have hs:Px.number (t :: r)=.ok t.num r:=by simp only[Px.number];rw[if_pos h1]
   rw[show ((t.kind:Int) == 2)=true by rw[h1];rfl] at hx
   have HS:=hid hs
   have H:=hid h
   have HX:=hid hx
   clear h hs h1 hx
   go_enter Tryz.func129,Tryz.ntmps129
   go_wp2_with fail
   refine HX.out.mono ?_
   rintro e w' ⟨rfl,rfl⟩
   go_wp2_with fail
   refine(take_any c t r _ H.out).mono ?_
   rintro e w' ⟨rfl,hf,hi⟩
   unfold tokV
   have hfd:=field_num
   go_wp2_with fail
   go_ret
   exact RP.ok HS.out hf hi rfl
  ·have hs:Px.number (t :: r)=.bad (t :: r):=by simp only[Px.number];rw[if_neg h1]
   rw[show ((t.kind:Int) == 2)=false by simp;omega] at hx
   have HS:=hid hs
   have H:=hid h
   have HX:=hid hx
   clear h hs h1 hx
   go_enter Tryz.func129,Tryz.ntmps129
   go_wp2_with fail
   refine HX.out.mono ?_
   rintro e w' ⟨rfl,rfl⟩
   go_wp2_with fail
   refine(refuse_any c _ _ H.out).mono ?_
   rintro e w' ⟨rfl,rfl⟩
   go_wp2_with fail
   exact⟨rfl,RP.bad HS.out (Fr.refl _ _) H.out⟩
end Go.Proofs.YtghohohagbbajaaGreatDoor
