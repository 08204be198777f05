/- part of the proof -/
import Derived.Test.YtghohohagbbajaaGreatDoorYO
import Derived.Test.YtghohohagbbajaaGreatDoorYY
import Derived.BigQuiet
set_option linter.unusedVariables false
set_option linter.unusedSimpArgs false
set_option linter.unusedSectionVars false
namespace Go.Proofs.YtghohohagbbajaaGreatDoor
open Go.RowKit Go.Lib
open Px (Txt TyE VarD DataD TraitD BoundD ImplD ArgD ExprD StmtD ArmD FuncD ModD)
def DtsV (w:World) (F:Nat) (l:List DataD) (v:Value):Prop:=RowF w F 45 5 l.length (rowsQ dataQ l) v
def VrsV (w:World) (F:Nat) (l:List VarD) (v:Value):Prop:=RowF w F 47 3 l.length (rowsQ varQ l) v
def TrsV (w:World) (F:Nat) (l:List TraitD) (v:Value):Prop:=RowF w F 89 2 l.length (rowsQ traitQ l) v
def ImsV (w:World) (F:Nat) (l:List ImplD) (v:Value):Prop:=RowF w F 91 8 l.length (rowsQ implQ l) v
section
variable {w:World} {F:Nat}
theorem var_ne:47≠factT:=by decide
theorem DtsV.mk {l:List DataD} {v:Value} (h:RowG w (fun k=>k≠F) 45 5 l.length (rowsQ dataQ l) v):DtsV w F l v:=⟨h,by decide,no_rows (no_data fact_ne.1 fact_ne.2.1 var_ne) l⟩
theorem VrsV.mk {l:List VarD} {v:Value} (h:RowV w (fun k=>k≠F) 47 3 l.length (rowsQ varQ l) v):VrsV w F l v:=⟨.inr h,var_ne,no_rows (no_var fact_ne.2.1) l⟩
theorem TrsV.mk {l:List TraitD} {v:Value} (h:RowG w (fun k=>k≠F) 89 2 l.length (rowsQ traitQ l) v):TrsV w F l v:=⟨h,by decide,no_rows no_trait l⟩
theorem ImsV.mk {l:List ImplD} {v:Value} (h:RowG w (fun k=>k≠F) 91 8 l.length (rowsQ implQ l) v):ImsV w F l v:=⟨h,by decide,no_rows (no_impl fact_ne.1 fact_ne.2.1 fact_ne.2.2.1) l⟩
theorem var_full {v:VarD} {cs:List Value} (h:RepF w F (varQ v) cs):∃ p c,cs=[.string ⟨v.name.toArray⟩,.slice p v.fields.length c,.int .i64 v.off]∧TysV w F v.fields (.slice p v.fields.length c):=by
 unfold RepF at h
 rw[varQ,rep_str] at h
 obtain⟨c1,rfl,h⟩:=h
 rw[typesS,rep_sl] at h
 obtain⟨u,c2,rfl,h1,h⟩:=h
 rw[rep_int] at h
 obtain⟨c3,rfl,h⟩:=h
 rw[rep_nil] at h
 subst h
 obtain⟨q1,d1,rfl⟩:=h1.shape
 exact⟨_,_,rfl,.mk h1⟩
theorem trait_full {v:TraitD} {cs:List Value} (h:RepF w F (traitQ v) cs):cs=[.string ⟨v.name.toArray⟩,.int .i64 v.off]:=by
 unfold RepF at h
 rw[traitQ,rep_str] at h
 obtain⟨c1,rfl,h⟩:=h
 rw[rep_int] at h
 obtain⟨c3,rfl,h⟩:=h
 rw[rep_nil] at h
 subst h
 rfl
theorem data_full {d:DataD} {cs:List Value} (h:RepF w F (dataQ d) cs):∃ p1 c1 p2 c2,cs=[.string ⟨d.name.toArray⟩,.slice p1 d.params.length c1,.slice p2 d.variants.length c2,.int .i64 d.drop,.int .i64 d.off] ∧
  StrV w F (.slice p1 d.params.length c1) d.params∧VrsV w F d.variants (.slice p2 d.variants.length c2):=by
 unfold RepF at h
 rw[dataQ,rep_str] at h
 obtain⟨c1,rfl,h⟩:=h
 rw[strsQ,rep_sl] at h
 obtain⟨u,c2,rfl,h1,h⟩:=h
 rw[rep_sl] at h
 obtain⟨u2,c3,rfl,h2,h⟩:=h
 rw[rep_int] at h
 obtain⟨c4,rfl,h⟩:=h
 rw[rep_int] at h
 obtain⟨c5,rfl,h⟩:=h
 rw[rep_nil] at h
 subst h
 obtain⟨q1,d1,rfl⟩:=h1.shape
 obtain⟨q2,d2,rfl⟩:=h2.shape
 exact⟨_,_,_,_,rfl,.of_row h1,.mk h2⟩
theorem impl_full {d:ImplD} {cs:List Value} (h:RepF w F (implQ d) cs):∃ p1 c1 p2 c2 ts tp tn tc to',cs=[.string ⟨d.trait.toArray⟩,.slice p1 d.params.length c1,.slice p2 d.bounds.length c2,.string ts,.slice tp tn tc,.int .i64 to',.string ⟨d.func.toArray⟩,.int .i64 d.off] ∧
  StrV w F (.slice p1 d.params.length c1) d.params∧BdsV w F d.bounds (.slice p2 d.bounds.length c2)∧RepF w F (typeQ d.type) [.string ts,.slice tp tn tc,.int .i64 to']:=by
 unfold RepF at h
 rw[implQ,rep_str] at h
 obtain⟨c1,rfl,h⟩:=h
 rw[strsQ,rep_sl] at h
 obtain⟨u,c2,rfl,h1,h⟩:=h
 rw[boundsS,rep_sl] at h
 obtain⟨u2,c3,rfl,h2,h⟩:=h
 obtain⟨a,b,rfl,ha,hb⟩:=h.split
 clear h
 obtain⟨y,p5,n5,c50,o5,rfl⟩:=type_shape ha
 rw[rep_str] at hb
 obtain⟨c4,rfl,h⟩:=hb
 rw[rep_int] at h
 obtain⟨c5,rfl,h⟩:=h
 rw[rep_nil] at h
 subst h
 obtain⟨q1,d1,rfl⟩:=h1.shape
 obtain⟨q2,d2,rfl⟩:=h2.shape
 exact⟨_,_,_,_,_,_,_,_,_,rfl,.of_row h1,.mk h2,ha⟩
def ModG (w:World) (N:Nat→Prop) (M:ModD) (cs:List Value):Prop :=
 ∃ v1 v2 v3 v4 v5,cs=[.string ⟨M.name.toArray⟩,v1,v2,v3,v4,v5]∧RowG w N 9 1 M.uses.length (rowsQ strQ M.uses) v1∧RowG w N 45 5 M.datas.length (rowsQ dataQ M.datas) v2 ∧
  RowG w N 89 2 M.traits.length (rowsQ traitQ M.traits) v3∧RowG w N 91 8 M.impls.length (rowsQ implQ M.impls) v4∧RowG w N 42 10 M.funcs.length (rowsQ funcQ M.funcs) v5
theorem ModG.mono {w w':World} {N N':Nat→Prop} {M:ModD} {cs:List Value} (h:ModG w N M cs) (hk:∀ k,N k→k<w.heap.size→N' k∧w'.heap[k]?=w.heap[k]?):ModG w' N' M cs:=by
 obtain⟨v1,v2,v3,v4,v5,e,h1,h2,h3,h4,h5⟩:=h
 exact⟨v1,v2,v3,v4,v5,e,h1.mono hk,h2.mono hk,h3.mono hk,h4.mono hk,h5.mono hk⟩
theorem ModG.of {w:World} {N:Nat→Prop} {M:ModD} {cs:List Value} (h:Rep w N (modQ M) cs):ModG w N M cs:=by
 rw[modQ,rep_str] at h
 obtain⟨c1,rfl,h⟩:=h
 rw[strsQ,rep_sl] at h
 obtain⟨u,c2,rfl,h1,h⟩:=h
 rw[rep_sl] at h
 obtain⟨u2,c3,rfl,h2,h⟩:=h
 rw[rep_sl] at h
 obtain⟨u3,c4,rfl,h3,h⟩:=h
 rw[rep_sl] at h
 obtain⟨u4,c5,rfl,h4,h⟩:=h
 rw[rep_sl] at h
 obtain⟨u5,c6,rfl,h5,h⟩:=h
 rw[rep_nil] at h
 subst h
 exact⟨_,_,_,_,_,rfl,.inr h1,.inr h2,.inr h3,.inr h4,.inr h5⟩
theorem mod_full {M:ModD} {cs:List Value} (h:ModG w (fun k=>k≠F) M cs):∃ p1 c1 p2 c2 p3 c3 p4 c4 p5 c5,cs=[.string ⟨M.name.toArray⟩,.slice p1 M.uses.length c1,.slice p2 M.datas.length c2,.slice p3 M.traits.length c3,.slice p4 M.impls.length c4,.slice p5 M.funcs.length c5] ∧
  StrV w F (.slice p1 M.uses.length c1) M.uses∧DtsV w F M.datas (.slice p2 M.datas.length c2)∧TrsV w F M.traits (.slice p3 M.traits.length c3)∧ImsV w F M.impls (.slice p4 M.impls.length c4)∧FnsV w F M.funcs (.slice p5 M.funcs.length c5):=by
 obtain⟨v1,v2,v3,v4,v5,rfl,h1,h2,h3,h4,h5⟩:=h
 obtain⟨q1,d1,rfl⟩:=h1.shape
 obtain⟨q2,d2,rfl⟩:=h2.shape
 obtain⟨q3,d3,rfl⟩:=h3.shape
 obtain⟨q4,d4,rfl⟩:=h4.shape
 obtain⟨q5,d5,rfl⟩:=h5.shape
 exact⟨_,_,_,_,_,_,_,_,_,_,rfl,.of_rowG h1,.mk h2,.mk h3,.mk h4,h5,farF.h7,no_rows (no_func farF) _⟩
end
def gV (off:Bool) (v:VarD):List Fact:=tF [v.name] ++ (typesF off v.fields ++ oF off v.off)
def gD (off:Bool) (d:DataD):List Fact:=tF [d.name] ++ (tF d.params ++ ((nF d.drop ++ nF d.variants.length) ++ (d.variants.flatMap (gV off) ++ oF off d.off)))
def gR (off:Bool) (r:TraitD):List Fact:=tF [r.name] ++ oF off r.off
def gI (off:Bool) (d:ImplD):List Fact:=tF [d.trait,d.func] ++ (tF d.params ++ (boundsF off d.bounds ++ (typesF off [d.type] ++ oF off d.off)))
theorem fVs_fl (off:Bool):∀ l:List VarD,fVs off l=l.flatMap (gV off)
 | []=>rfl
 | b :: r=>by rw[fVs,fVs_fl off r,List.flatMap_cons,gV];simp only[List.append_assoc]
theorem fDs_fl (off:Bool):∀ l:List DataD,fDs off l=l.flatMap (gD off)
 | []=>rfl
 | b :: r=>by rw[fDs,fDs_fl off r,fVs_fl,List.flatMap_cons,gD];simp only[List.append_assoc]
theorem fRs_fl (off:Bool):∀ l:List TraitD,fRs off l=l.flatMap (gR off)
 | []=>rfl
 | b :: r=>by rw[fRs,fRs_fl off r,List.flatMap_cons,gR];simp only[List.append_assoc]
theorem fIs_fl (off:Bool):∀ l:List ImplD,fIs off l=l.flatMap (gI off)
 | []=>rfl
 | b :: r=>by rw[fIs,fIs_fl off r,List.flatMap_cons,gI];simp only[List.append_assoc]
theorem factsM_fl (off:Bool) (M:ModD):factsM off M=tF [M.name] ++ (tF M.uses ++ (nF M.datas.length ++ (M.datas.flatMap (gD off) ++ (nF M.traits.length ++ (M.traits.flatMap (gR off) ++ (nF M.impls.length ++ (M.impls.flatMap (gI off) ++ fnsF off M.funcs))))))):=by
 rw[factsM,fDs_fl,fRs_fl,fIs_fl,fFs_fl];rfl
def FactsPost (w:World) (off:Bool) (M:ModD) (e:Ending) (w':World):Prop :=
 ∃ v,e=.returned v∧ListAt w' w.heap.size factT 2 (factsM off M).length (rowsQ factQ (factsM off M)) v∧Fr [] w w'
set_option maxRecDepth 100000 in
set_option maxHeartbeats 3200000 in
theorem facts_any (M:ModD) (off:Bool) (cs:List Value) (w:World) (h:ModG w (fun k=>k<w.heap.size) M cs) (hlen:(factsM off M).length≤900000) :
  Calls Tryz.prog 13 #[.agg cs.toArray,.bool off] w (FactsPost w off M):=by
 have h':ModG w (fun k=>k≠w.heap.size+1) M cs:=h.mono (fun k hk _=>⟨by have:k<w.heap.size:=hk;omega,rfl⟩)
 obtain⟨p1,c1v,p2,c2v,p3,c3v,p4,c4v,p5,c5v,rfl,h1,h2,h3,h4,h5⟩:=mod_full h'
 have hFl:Hid (FlatI ((w.alloc (.cells #[.string ⟨M.name.toArray⟩,.slice p1 M.uses.length c1v,.slice p2 M.datas.length c2v,.slice p3 M.traits.length c3v,.slice p4 M.impls.length c4v,.slice p5 M.funcs.length c5v] 29)).alloc (.cells #[.slice none 0 0,.bool off] 96)) (w.heap.size+1) (w.heap.size+2) off [] (.slice none 0 0)):=hid ⟨by have:=Blk.new (w.alloc (.cells #[.string ⟨M.name.toArray⟩,.slice p1 M.uses.length c1v,.slice p2 M.datas.length c2v,.slice p3 M.traits.length c3v,.slice p4 M.impls.length c4v,.slice p5 M.funcs.length c5v] 29)) 96 #[.slice none 0 0,.bool off];simpa using this,.inl ⟨rfl,rfl,rfl⟩,by omega,by simp⟩
 have HW:Hid (FrF (w.heap.size+1) w ((w.alloc (.cells #[.string ⟨M.name.toArray⟩,.slice p1 M.uses.length c1v,.slice p2 M.datas.length c2v,.slice p3 M.traits.length c3v,.slice p4 M.impls.length c4v,.slice p5 M.funcs.length c5v] 29)).alloc (.cells #[.slice none 0 0,.bool off] 96))):=hid (((FrF.refl _ w).alloc _).alloc _)
 have HFW:Hid (Fr [] w ((w.alloc (.cells #[.string ⟨M.name.toArray⟩,.slice p1 M.uses.length c1v,.slice p2 M.datas.length c2v,.slice p3 M.traits.length c3v,.slice p4 M.impls.length c4v,.slice p5 M.funcs.length c5v] 29)).alloc (.cells #[.slice none 0 0,.bool off] 96))):=hid (((Fr.refl _ w).alloc _).alloc _)
 have HM:Hid (Blk ((w.alloc (.cells #[.string ⟨M.name.toArray⟩,.slice p1 M.uses.length c1v,.slice p2 M.datas.length c2v,.slice p3 M.traits.length c3v,.slice p4 M.impls.length c4v,.slice p5 M.funcs.length c5v] 29)).alloc (.cells #[.slice none 0 0,.bool off] 96)) w.heap.size 29 #[.string ⟨M.name.toArray⟩,.slice p1 M.uses.length c1v,.slice p2 M.datas.length c2v,.slice p3 M.traits.length c3v,.slice p4 M.impls.length c4v,.slice p5 M.funcs.length c5v]):=hid ((Blk.new _ _ _).alloc _)
 have R1:=hid (h1.keep HW.out)
 have R2:=hid (h2.keep HW.out)
 have R3:=hid (h3.keep HW.out)
 have R4:=hid (h4.keep HW.out)
 have R5:=hid (h5.keep HW.out)
 rw[factsM_fl] at hlen
 simp only[List.length_append,nF_len] at hlen
 clear h h' h1 h2 h3 h4 h5
 go_enter Tryz.func13,Tryz.ntmps13
 go_wp2_with fail
 obtain⟨wq,hwq⟩:∃ wq,wq=((w.alloc (.cells #[.string ⟨M.name.toArray⟩,.slice p1 M.uses.length c1v,.slice p2 M.datas.length c2v,.slice p3 M.traits.length c3v,.slice p4 M.impls.length c4v,.slice p5 M.funcs.length c5v] 29)).alloc (.cells #[.slice none 0 0,.bool off] 96)):=⟨_,rfl⟩
 have hqz:wq.heap.size=w.heap.size+2:=by rw[hwq];simp
 rw[← hwq] at hFl HFW HM R1 R2 R3 R4 R5
 try rw[← hwq]
 try rw[← hqz]
 have HG0:Hid (Got (w.heap.size+1) (w.heap.size+2) off wq wq []):=hid ⟨⟨_,hFl.out⟩,FrF.refl _ _⟩
 have hbF:w.heap.size≠w.heap.size+1:=by omega
 have hFq:=HG0.out.lt
 clear hwq hFl HW
 refine((HG0.out.alloc _).text (StrV.new (l:=[M.name]) (by exact hFq) (by rfl) (by rfl)) (by (try simp only[List.length_append,nF_len,List.length_nil]);omega)).mono ?_
 rintro e w1 ⟨hG1,hF1,rfl⟩
 have HF1:=hid (((FrF.refl _ wq).alloc (.cells #[.string ⟨M.name.toArray⟩] 9)).trans hF1)
 have HG1:=hid hG1
 have HM_1:=hid (HF1.out.keep HM.out (by decide) hbF)
 have hl_HM_1:=HM_1.out.lt
 clear hG1 hF1 
 have q1:=(HM_1.out.cell 1:w1.cell? ⟨w.heap.size,1,none⟩=some (.slice p1 M.uses.length c1v))
 go_wp2_with fail
 refine(HG1.out.text (R1.out.keep HF1.out) (by (try simp only[List.length_append,nF_len,List.length_nil]);omega)).mono ?_
 rintro e w2 ⟨hG2,hF2,rfl⟩
 have HF2:=hid (HF1.out.trans hF2)
 have HG2:=hid hG2
 have HM_2:=hid (HF2.out.keep HM.out (by decide) hbF)
 have hl_HM_2:=HM_2.out.lt
 clear hG2 hF2 q1 hl_HM_1
 have q2:=(HM_2.out.cell 2:w2.cell? ⟨w.heap.size,2,none⟩=some (.slice p2 M.datas.length c2v))
 go_wp2_with fail
 refine((HG2.out.alloc _).number (n:=M.datas.length) (by exact Blk.new _ _ _) (by have:=HG2.out.lt;omega) (by (try simp only[List.length_append,nF_len,List.length_nil]);omega)).mono ?_
 rintro e w3 ⟨hG3,hF3,rfl⟩
 have HF3:=hid ((HF2.out.alloc (.cells #[.int .i64 M.datas.length] 3)).trans hF3)
 have HG3:=hid hG3
 have HM_3:=hid (HF3.out.keep HM.out (by decide) hbF)
 have hl_HM_3:=HM_3.out.lt
 clear hG3 hF3 q2 hl_HM_2
 go_wp2_with fail
 obtain⟨a1,HA1,hae1⟩:∃ am,Hid (Got (w.heap.size+1) (w.heap.size+2) off wq w3 am)∧am=[] ++ tF [M.name] ++ tF M.uses ++ nF M.datas.length:=⟨_,HG3,rfl⟩
 have hal1:a1.length+((M.datas.flatMap (gD off)).length+(1+((M.traits.flatMap (gR off)).length+(1+((M.impls.flatMap (gI off)).length+(fnsF off M.funcs).length)))))≤900000:=by rw[hae1];simp only[List.length_append,nF_len,List.length_nil];omega
 have HE1:=hid hae1
 clear hae1
 go_loopw [6] (fun vi wr=>∃ i:Nat,vi=.int .i64 i∧i≤M.datas.length∧Got (w.heap.size+1) (w.heap.size+2) off wq wr (a1 ++ (M.datas.take i).flatMap (gD off))) (fun vi _=>M.datas.length - (RowKit.intOf vi).toNat)
 case atStart=>exact⟨0,rfl,by omega,by simpa using HA1.out⟩
 case round =>
  obtain⟨i,rfl,hi,hG⟩:=hrel
  have HMr:=hid (hG.2.keep HM.out (by decide) hbF)
  have q2:=(HMr.out.cell 2:wr.cell? ⟨w.heap.size,2,none⟩=some (.slice p2 M.datas.length c2v))
  have hl_HMr:=HMr.out.lt
  by_cases hlt:i<M.datas.length
  ·obtain⟨t,hx⟩:∃ x,M.datas[i]?=some x:=⟨M.datas[i],List.getElem?_eq_getElem hlt⟩
   have hd:decide ((i:Int)<(M.datas.length:Int))=true:=by simp;omega
   have hd':decide (i<M.datas.length)=true:=by simp;omega
   have hdI:(i:Int)<(M.datas.length:Int):=by omega
   obtain⟨g,cap,cur,ds,e,hblk,hgF,hcap,hmax,hrep,hcell⟩:=(R2.out.keep hG.2).at len_dataQ hx
   simp only[Value.slice.injEq] at e
   obtain⟨rfl,_,rfl⟩:=e
   obtain⟨r1,d1v,r2,d2v,rfl,g1,g2⟩:=data_full hrep
   have hml:=hmax
   unfold maxLen at hml
   have k0:=hcell 0 (by omega)
   have k1:=hcell 1 (by omega)
   have k2:=hcell 2 (by omega)
   have k3:=hcell 3 (by omega)
   have k4:=hcell 4 (by omega)
   simp only[List.getElem?_cons_succ,List.getElem?_cons_zero,Nat.add_zero] at k0 k1 k2 k3 k4
   have hgl:=hblk.lt
   have hfl:=fl_len (gD off) hx
   obtain⟨ac,hac⟩:∃ ac,ac=a1 ++ (M.datas.take i).flatMap (gD off):=⟨_,rfl⟩
   have hal:ac.length+(gD off t).length≤900000:=by rw[hac];simp only[List.length_append,nF_len] at hfl ⊢;omega
   simp only[gD,List.length_append,nF_len] at hal
   rw[← hac] at hG
   have hFr:=hG.lt
   have HX:=hid hx
   have HAC:=hid hac
   have kk0:=(hblk.cell _).trans k0
   have kk1:=(hblk.cell _).trans k1
   have kk2:=(hblk.cell _).trans k2
   have kk3:=(hblk.cell _).trans k3
   have kk4:=(hblk.cell _).trans k4
   have HGd:Hid (Got (w.heap.size+1) (w.heap.size+2) off wq (wr.alloc (.cells #[.string ⟨t.name.toArray⟩,.slice r1 t.params.length d1v,.slice r2 t.variants.length d2v,.int .i64 t.drop,.int .i64 t.off] 45)) ac):=hid (hG.alloc _)
   have HFd:Hid (FrF (w.heap.size+1) wr (wr.alloc (.cells #[.string ⟨t.name.toArray⟩,.slice r1 t.params.length d1v,.slice r2 t.variants.length d2v,.int .i64 t.drop,.int .i64 t.off] 45))):=hid ((FrF.refl _ wr).alloc _)
   have HD:Hid (Blk (wr.alloc (.cells #[.string ⟨t.name.toArray⟩,.slice r1 t.params.length d1v,.slice r2 t.variants.length d2v,.int .i64 t.drop,.int .i64 t.off] 45)) wr.heap.size 45 #[.string ⟨t.name.toArray⟩,.slice r1 t.params.length d1v,.slice r2 t.variants.length d2v,.int .i64 t.drop,.int .i64 t.off]):=hid (Blk.new _ _ _)
   have hdz:(wr.alloc (.cells #[.string ⟨t.name.toArray⟩,.slice r1 t.params.length d1v,.slice r2 t.variants.length d2v,.int .i64 t.drop,.int .i64 t.off] 45)).heap.size=wr.heap.size+1:=by simp
   have G1:=hid (g1.keep HFd.out)
   have G2:=hid (g2.keep HFd.out)
   clear hG hx hac hblk hcell hfl hrep g1 g2 k0 k1 k2 k3 k4
   go_wp2_with fail
   obtain⟨wd,hwd⟩:∃ wq,wq=wr.alloc (.cells #[.string ⟨t.name.toArray⟩,.slice r1 t.params.length d1v,.slice r2 t.variants.length d2v,.int .i64 t.drop,.int .i64 t.off] 45):=⟨_,rfl⟩
   obtain⟨b2,hb2⟩:∃ b,b=wr.heap.size:=⟨_,rfl⟩
   rw[← hwd] at HGd HFd HD hdz G1 G2
   rw[← hb2] at HD hdz hFr
   have hb2F:b2≠w.heap.size+1:=by omega
   try rw[← hwd]
   try rw[← hb2]
   try rw[← hdz]
   have hFd:=HGd.out.lt
   have hl_HD:=HD.out.lt
   clear hwd hb2 hgl hl_HMr q2 HMr kk0 kk1 kk2 kk3 kk4
   refine((HGd.out.alloc _).text (StrV.new (l:=[t.name]) (by exact hFd) (by rfl) (by rfl)) (by (try simp only[List.length_append,nF_len]);omega)).mono ?_
   rintro e w1 ⟨hG1,hF1,rfl⟩
   have HF1:=hid (((FrF.refl _ wd).alloc (.cells #[.string ⟨t.name.toArray⟩] 9)).trans hF1)
   have HG1:=hid hG1
   have HD_1:=hid (HF1.out.keep HD.out (by decide) hb2F)
   have hl_HD_1:=HD_1.out.lt
   clear hG1 hF1 
   have u1:=(HD_1.out.cell 1:w1.cell? ⟨b2,1,none⟩=some (.slice r1 t.params.length d1v))
   go_wp2_with fail
   refine(HG1.out.text (G1.out.keep HF1.out) (by (try simp only[List.length_append,nF_len]);omega)).mono ?_
   rintro e w2 ⟨hG2,hF2,rfl⟩
   have HF2:=hid (HF1.out.trans hF2)
   have HG2:=hid hG2
   have HD_2:=hid (HF2.out.keep HD.out (by decide) hb2F)
   have hl_HD_2:=HD_2.out.lt
   clear hG2 hF2 u1 hl_HD_1
   have u2:=(HD_2.out.cell 2:w2.cell? ⟨b2,2,none⟩=some (.slice r2 t.variants.length d2v))
   have u3:=(HD_2.out.cell 3:w2.cell? ⟨b2,3,none⟩=some (.int .i64 t.drop))
   go_wp2_with fail
   refine((HG2.out.alloc _).number2 (n:=t.drop) (m:=t.variants.length) (by exact Blk.new _ _ _) (by have:=HG2.out.lt;omega) (by (try simp only[List.length_append,nF_len]);omega)).mono ?_
   rintro e w3 ⟨hG3,hF3,rfl⟩
   have HF3:=hid ((HF2.out.alloc (.cells #[.int .i64 t.drop,.int .i64 t.variants.length] 3)).trans hF3)
   have HG3:=hid hG3
   have HD_3:=hid (HF3.out.keep HD.out (by decide) hb2F)
   have hl_HD_3:=HD_3.out.lt
   clear hG3 hF3 u2 u3 hl_HD_2
   go_wp2_with fail
   obtain⟨am,HGa,hame⟩:∃ am,Hid (Got (w.heap.size+1) (w.heap.size+2) off wq w3 am)∧am=ac ++ tF [t.name] ++ tF t.params ++ (nF t.drop ++ nF t.variants.length):=⟨_,HG3,rfl⟩
   have hal2:am.length+((t.variants.flatMap (gV off)).length+(oF off t.off).length)≤900000:=by rw[hame];simp only[List.length_append,nF_len];omega
   have HAM:=hid hame
   clear hame
   go_loopw [8] (fun vj wr=>∃ j:Nat,vj=.int .i64 j∧j≤t.variants.length∧Got (w.heap.size+1) (w.heap.size+2) off wq wr (am ++ (t.variants.take j).flatMap (gV off))∧FrF (w.heap.size+1) wd wr) (fun vj _=>t.variants.length - (RowKit.intOf vj).toNat)
   case atStart=>exact⟨0,rfl,by omega,by simpa using HGa.out,HF3.out⟩
   case round =>
    obtain⟨j,rfl,hj,hG,hF⟩:=hrel
    have HDi:=hid (hF.keep HD.out (by decide) hb2F)
    have u2:=(HDi.out.cell 2:wr.cell? ⟨b2,2,none⟩=some (.slice r2 t.variants.length d2v))
    have hl_HDi:=HDi.out.lt
    by_cases hjl:j<t.variants.length
    ·obtain⟨u,hy⟩:∃ x,t.variants[j]?=some x:=⟨t.variants[j],List.getElem?_eq_getElem hjl⟩
     have hjd:decide ((j:Int)<(t.variants.length:Int))=true:=by simp;omega
     have hjd':decide (j<t.variants.length)=true:=by simp;omega
     have hjI:(j:Int)<(t.variants.length:Int):=by omega
     obtain⟨g2,cap2,cur2,ds2,e2,hblk2,hgF2,hcap2,hmax2,hrep2,hcell2⟩:=(G2.out.keep hF).at len_varQ hy
     simp only[Value.slice.injEq] at e2
     obtain⟨rfl,_,rfl⟩:=e2
     obtain⟨s1,e1v,rfl,j1⟩:=var_full hrep2
     have hml2:=hmax2
     unfold maxLen at hml2
     have m0:=hcell2 0 (by omega)
     have m1:=hcell2 1 (by omega)
     have m2:=hcell2 2 (by omega)
     simp only[List.getElem?_cons_succ,List.getElem?_cons_zero,Nat.add_zero] at m0 m1 m2
     have M0:=hid m0
     have M1:=hid m1
     have M2:=hid m2
     have hgl2:=hblk2.lt
     have hfl2:=fl_len (gV off) hy
     obtain⟨aj,haj⟩:∃ aj,aj=am ++ (t.variants.take j).flatMap (gV off):=⟨_,rfl⟩
     have hal3:aj.length+(gV off u).length≤900000:=by rw[haj];simp only[List.length_append] at hfl2 ⊢;omega
     simp only[gV,List.length_append,nF_len] at hal3
     rw[← haj] at hG
     have hFi:=hG.lt
     have HGi:=hid hG
     have HFi:=hid hF
     have HY:=hid hy
     have HAJ:=hid haj
     have HB2:=hid hblk2
     have J1:=hid j1
     clear hG hF hy haj hblk2 hcell2 hfl2 hrep2 j1 m0 m1 m2
     have m0:=(HB2.out.cell _).trans M0.out
     go_wp2_with fail
     refine((HGi.out.alloc _).text (StrV.new (l:=[u.name]) (by exact hFi) (by rfl) (by rfl)) (by (try simp only[List.length_append,nF_len]);omega)).mono ?_
     rintro e w1 ⟨hG1,hF1,rfl⟩
     have HF1:=hid (((FrF.refl _ wr).alloc (.cells #[.string ⟨u.name.toArray⟩] 9)).trans hF1)
     have HG1:=hid hG1
     have HB2_1:=hid (HF1.out.keep HB2.out (by decide) hgF2)
     have hl_HB2_1:=HB2_1.out.lt
     have HDi_1:=hid (HF1.out.keep HDi.out (by decide) hb2F)
     have hl_HDi_1:=HDi_1.out.lt
     clear hG1 hF1 u2 m0
     have u2:=(HDi_1.out.cell 2:w1.cell? ⟨b2,2,none⟩=some (.slice (some ⟨g2,0,none⟩) t.variants.length d2v))
     have m1:=(HB2_1.out.cell _).trans M1.out
     go_wp2_with fail
     refine(HG1.out.types (J1.out.keep HF1.out) (by (try simp only[List.length_append,nF_len]);omega)).mono ?_
     rintro e w2 ⟨hG2,hF2,rfl⟩
     have HF2:=hid (HF1.out.trans hF2)
     have HG2:=hid hG2
     have HB2_2:=hid (HF2.out.keep HB2.out (by decide) hgF2)
     have hl_HB2_2:=HB2_2.out.lt
     have HDi_2:=hid (HF2.out.keep HDi.out (by decide) hb2F)
     have hl_HDi_2:=HDi_2.out.lt
     clear hG2 hF2 u2 m1 hl_HB2_1 hl_HDi_1
     have u2:=(HDi_2.out.cell 2:w2.cell? ⟨b2,2,none⟩=some (.slice (some ⟨g2,0,none⟩) t.variants.length d2v))
     have m2:=(HB2_2.out.cell _).trans M2.out
     go_wp2_with fail
     refine(HG2.out.at u.off (by (try simp only[List.length_append,nF_len]);omega)).mono ?_
     rintro e w3 ⟨hG3,hF3,rfl⟩
     have HF3:=hid (HF2.out.trans hF3)
     have HG3:=hid hG3
     have HB2_3:=hid (HF3.out.keep HB2.out (by decide) hgF2)
     have hl_HB2_3:=HB2_3.out.lt
     have HDi_3:=hid (HF3.out.keep HDi.out (by decide) hb2F)
     have hl_HDi_3:=HDi_3.out.lt
     clear hG3 hF3 u2 m2 hl_HB2_2 hl_HDi_2
     go_wp2_with fail
     go_roundw
     case rel=>exact⟨j+1,by go_num,by omega,by rw[fl_take _ HY.out,← List.append_assoc,← HAJ.out];simpa only [gV,List.append_assoc] using HG3.out,HFi.out.trans HF3.out⟩
     case measure=>simp[RowKit.intOf];omega
    ·obtain rfl:j=t.variants.length:=by omega
     have hjd:decide ((t.variants.length:Int)<(t.variants.length:Int))=false:=by simp
     rw[List.take_length] at hG
     have HGi:=hid hG
     have HFi:=hid hF
     clear hG hF
     have u4:=(HDi.out.cell 4:wr.cell? ⟨b2,4,none⟩=some (.int .i64 t.off))
     go_wp2_with fail
     refine(HGi.out.at t.off (by (try simp only[List.length_append,nF_len]);omega)).mono ?_
     rintro e w21 ⟨hG21,hF21,rfl⟩
     have HF21:=hid (HFi.out.trans hF21)
     have HG21:=hid hG21
     have HD_21:=hid (HF21.out.keep HD.out (by decide) hb2F)
     have hl_HD_21:=HD_21.out.lt
     clear hG21 hF21 u2 u4 hl_HDi
     go_wp2_with fail
     go_roundw
     case rel=>exact⟨i+1,by go_num,by omega,by rw[fl_take _ HX.out,← List.append_assoc,← HAC.out];have e:=HG21.out;rw[HAM.out] at e;simpa only [gD,List.append_assoc] using e⟩
     case measure=>simp[RowKit.intOf];omega
  ·skip
   obtain rfl:i=M.datas.length:=by omega
   have hd:decide ((M.datas.length:Int)<(M.datas.length:Int))=false:=by simp
   rw[List.take_length] at hG
   have HGx:=hid hG
   have HFx:=hid hG.2
   clear hG
   have q3:=(HMr.out.cell 3:wr.cell? ⟨w.heap.size,3,none⟩=some (.slice p3 M.traits.length c3v))
   go_wp2_with fail
   refine((HGx.out.alloc _).number (n:=M.traits.length) (by exact Blk.new _ _ _) (by have:=HGx.out.lt;omega) (by (try simp only[List.length_append,nF_len]);omega)).mono ?_
   rintro e w41 ⟨hG41,hF41,rfl⟩
   have HF41:=hid ((HFx.out.alloc (.cells #[.int .i64 M.traits.length] 3)).trans hF41)
   have HG41:=hid hG41
   have HM_41:=hid (HF41.out.keep HM.out (by decide) hbF)
   have hl_HM_41:=HM_41.out.lt
   clear hG41 hF41 q2 q3 hl_HMr
   go_wp2_with fail
   obtain⟨a2,HA2,hae2⟩:∃ am,Hid (Got (w.heap.size+1) (w.heap.size+2) off wq w41 am)∧am=a1 ++ M.datas.flatMap (gD off) ++ nF M.traits.length:=⟨_,HG41,rfl⟩
   have hal2:a2.length+((M.traits.flatMap (gR off)).length+(1+((M.impls.flatMap (gI off)).length+(fnsF off M.funcs).length)))≤900000:=by rw[hae2];simp only[List.length_append,nF_len];omega
   have HE2:=hid hae2
   clear hae2
   go_loopw [9] (fun vi wr=>∃ i:Nat,vi=.int .i64 i∧i≤M.traits.length∧Got (w.heap.size+1) (w.heap.size+2) off wq wr (a2 ++ (M.traits.take i).flatMap (gR off))) (fun vi _=>M.traits.length - (RowKit.intOf vi).toNat)
   case atStart=>exact⟨0,rfl,by omega,by simpa using HA2.out⟩
   case round =>
    obtain⟨i,rfl,hi,hG⟩:=hrel
    have HMr:=hid (hG.2.keep HM.out (by decide) hbF)
    have q3:=(HMr.out.cell 3:wr.cell? ⟨w.heap.size,3,none⟩=some (.slice p3 M.traits.length c3v))
    have hl_HMr:=HMr.out.lt
    by_cases hlt:i<M.traits.length
    ·obtain⟨t,hx⟩:∃ x,M.traits[i]?=some x:=⟨M.traits[i],List.getElem?_eq_getElem hlt⟩
     have hd:decide ((i:Int)<(M.traits.length:Int))=true:=by simp;omega
     have hd':decide (i<M.traits.length)=true:=by simp;omega
     have hdI:(i:Int)<(M.traits.length:Int):=by omega
     obtain⟨g,cap,cur,ds,e,hblk,hgF,hcap,hmax,hrep,hcell⟩:=(R3.out.keep hG.2).at len_traitQ hx
     simp only[Value.slice.injEq] at e
     obtain⟨rfl,_,rfl⟩:=e
     obtain rfl:=trait_full hrep
     have hml:=hmax
     unfold maxLen at hml
     have k0:=hcell 0 (by omega)
     have k1:=hcell 1 (by omega)
     simp only[List.getElem?_cons_succ,List.getElem?_cons_zero,Nat.add_zero] at k0 k1
     have hgl:=hblk.lt
     have hfl:=fl_len (gR off) hx
     obtain⟨ac,hac⟩:∃ ac,ac=a2 ++ (M.traits.take i).flatMap (gR off):=⟨_,rfl⟩
     have hal:ac.length+(gR off t).length≤900000:=by rw[hac];simp only[List.length_append,nF_len] at hfl ⊢;omega
     simp only[gR,List.length_append,nF_len] at hal
     rw[← hac] at hG
     have hFr:=hG.lt
     have HX:=hid hx
     have HAC:=hid hac
     have HG0:=hid hG
     have HB:=hid hblk
     have K0:=hid k0
     have K1:=hid k1
     clear hG hx hac hblk hcell hfl hrep k0 k1
     have c0:=(HB.out.cell _).trans K0.out
     go_wp2_with fail
     refine((HG0.out.alloc _).text (StrV.new (l:=[t.name]) (by exact hFr) (by rfl) (by rfl)) (by (try simp only[List.length_append,nF_len]);omega)).mono ?_
     rintro e w1 ⟨hG1,hF1,rfl⟩
     have HF1:=hid (((FrF.refl _ wr).alloc (.cells #[.string ⟨t.name.toArray⟩] 9)).trans hF1)
     have HG1:=hid hG1
     have HB_1:=hid (HF1.out.keep HB.out (by decide) hgF)
     have hl_HB_1:=HB_1.out.lt
     have HMr_1:=hid (HF1.out.keep HMr.out (by decide) hbF)
     have hl_HMr_1:=HMr_1.out.lt
     clear hG1 hF1 q3 c0
     have q3:=(HMr_1.out.cell 3:w1.cell? ⟨w.heap.size,3,none⟩=some (.slice (some ⟨g,0,none⟩) M.traits.length c3v))
     have c1:=(HB_1.out.cell _).trans K1.out
     go_wp2_with fail
     refine(HG1.out.at t.off (by (try simp only[List.length_append,nF_len]);omega)).mono ?_
     rintro e w2 ⟨hG2,hF2,rfl⟩
     have HF2:=hid (HF1.out.trans hF2)
     have HG2:=hid hG2
     have HB_2:=hid (HF2.out.keep HB.out (by decide) hgF)
     have hl_HB_2:=HB_2.out.lt
     have HMr_2:=hid (HF2.out.keep HMr.out (by decide) hbF)
     have hl_HMr_2:=HMr_2.out.lt
     clear hG2 hF2 q3 c1 hl_HB_1 hl_HMr_1
     go_wp2_with fail
     go_roundw
     case rel=>exact⟨i+1,by go_num,by omega,by rw[fl_take _ HX.out,← List.append_assoc,← HAC.out];simpa only [gR,List.append_assoc] using HG2.out⟩
     case measure=>simp[RowKit.intOf];omega
    ·skip
     obtain rfl:i=M.traits.length:=by omega
     have hd:decide ((M.traits.length:Int)<(M.traits.length:Int))=false:=by simp
     rw[List.take_length] at hG
     have HGx:=hid hG
     have HFx:=hid hG.2
     clear hG
     have q4:=(HMr.out.cell 4:wr.cell? ⟨w.heap.size,4,none⟩=some (.slice p4 M.impls.length c4v))
     go_wp2_with fail
     refine((HGx.out.alloc _).number (n:=M.impls.length) (by exact Blk.new _ _ _) (by have:=HGx.out.lt;omega) (by (try simp only[List.length_append,nF_len]);omega)).mono ?_
     rintro e w51 ⟨hG51,hF51,rfl⟩
     have HF51:=hid ((HFx.out.alloc (.cells #[.int .i64 M.impls.length] 3)).trans hF51)
     have HG51:=hid hG51
     have HM_51:=hid (HF51.out.keep HM.out (by decide) hbF)
     have hl_HM_51:=HM_51.out.lt
     clear hG51 hF51 q3 q4 hl_HMr
     go_wp2_with fail
     obtain⟨a3,HA3,hae3⟩:∃ am,Hid (Got (w.heap.size+1) (w.heap.size+2) off wq w51 am)∧am=a2 ++ M.traits.flatMap (gR off) ++ nF M.impls.length:=⟨_,HG51,rfl⟩
     have hal3:a3.length+((M.impls.flatMap (gI off)).length+(fnsF off M.funcs).length)≤900000:=by rw[hae3];simp only[List.length_append,nF_len];omega
     have HE3:=hid hae3
     clear hae3
     go_loopw [10] (fun vi wr=>∃ i:Nat,vi=.int .i64 i∧i≤M.impls.length∧Got (w.heap.size+1) (w.heap.size+2) off wq wr (a3 ++ (M.impls.take i).flatMap (gI off))) (fun vi _=>M.impls.length - (RowKit.intOf vi).toNat)
     case atStart=>exact⟨0,rfl,by omega,by simpa using HA3.out⟩
     case round =>
      obtain⟨i,rfl,hi,hG⟩:=hrel
      have HMr:=hid (hG.2.keep HM.out (by decide) hbF)
      have q4:=(HMr.out.cell 4:wr.cell? ⟨w.heap.size,4,none⟩=some (.slice p4 M.impls.length c4v))
      have hl_HMr:=HMr.out.lt
      by_cases hlt:i<M.impls.length
      ·obtain⟨t,hx⟩:∃ x,M.impls[i]?=some x:=⟨M.impls[i],List.getElem?_eq_getElem hlt⟩
       have hd:decide ((i:Int)<(M.impls.length:Int))=true:=by simp;omega
       have hd':decide (i<M.impls.length)=true:=by simp;omega
       have hdI:(i:Int)<(M.impls.length:Int):=by omega
       obtain⟨g,cap,cur,ds,e,hblk,hgF,hcap,hmax,hrep,hcell⟩:=(R4.out.keep hG.2).at len_implQ hx
       simp only[Value.slice.injEq] at e
       obtain⟨rfl,_,rfl⟩:=e
       obtain⟨r1,d1v,r2,d2v,ts,tp,tn,tc,to',rfl,g1,g2,g3⟩:=impl_full hrep
       have hml:=hmax
       unfold maxLen at hml
       have k0:=hcell 0 (by omega)
       have k1:=hcell 1 (by omega)
       have k2:=hcell 2 (by omega)
       have k3:=hcell 3 (by omega)
       have k4:=hcell 4 (by omega)
       have k5:=hcell 5 (by omega)
       have k6:=hcell 6 (by omega)
       have k7:=hcell 7 (by omega)
       simp only[List.getElem?_cons_succ,List.getElem?_cons_zero,Nat.add_zero] at k0 k1 k2 k3 k4 k5 k6 k7
       have hgl:=hblk.lt
       have hfl:=fl_len (gI off) hx
       obtain⟨ac,hac⟩:∃ ac,ac=a3 ++ (M.impls.take i).flatMap (gI off):=⟨_,rfl⟩
       have hal:ac.length+(gI off t).length≤900000:=by rw[hac];simp only[List.length_append,nF_len] at hfl ⊢;omega
       simp only[gI,List.length_append,nF_len] at hal
       rw[← hac] at hG
       have hFr:=hG.lt
       have HX:=hid hx
       have HAC:=hid hac
       have kk0:=(hblk.cell _).trans k0
       have kk1:=(hblk.cell _).trans k1
       have kk2:=(hblk.cell _).trans k2
       have kk3:=(hblk.cell _).trans k3
       have kk4:=(hblk.cell _).trans k4
       have kk5:=(hblk.cell _).trans k5
       have kk6:=(hblk.cell _).trans k6
       have kk7:=(hblk.cell _).trans k7
       have HGd:Hid (Got (w.heap.size+1) (w.heap.size+2) off wq (wr.alloc (.cells #[.string ⟨t.trait.toArray⟩,.slice r1 t.params.length d1v,.slice r2 t.bounds.length d2v,.string ts,.slice tp tn tc,.int .i64 to',.string ⟨t.func.toArray⟩,.int .i64 t.off] 91)) ac):=hid (hG.alloc _)
       have HFd:Hid (FrF (w.heap.size+1) wr (wr.alloc (.cells #[.string ⟨t.trait.toArray⟩,.slice r1 t.params.length d1v,.slice r2 t.bounds.length d2v,.string ts,.slice tp tn tc,.int .i64 to',.string ⟨t.func.toArray⟩,.int .i64 t.off] 91))):=hid ((FrF.refl _ wr).alloc _)
       have HD:Hid (Blk (wr.alloc (.cells #[.string ⟨t.trait.toArray⟩,.slice r1 t.params.length d1v,.slice r2 t.bounds.length d2v,.string ts,.slice tp tn tc,.int .i64 to',.string ⟨t.func.toArray⟩,.int .i64 t.off] 91)) wr.heap.size 91 #[.string ⟨t.trait.toArray⟩,.slice r1 t.params.length d1v,.slice r2 t.bounds.length d2v,.string ts,.slice tp tn tc,.int .i64 to',.string ⟨t.func.toArray⟩,.int .i64 t.off]):=hid (Blk.new _ _ _)
       have hdz:(wr.alloc (.cells #[.string ⟨t.trait.toArray⟩,.slice r1 t.params.length d1v,.slice r2 t.bounds.length d2v,.string ts,.slice tp tn tc,.int .i64 to',.string ⟨t.func.toArray⟩,.int .i64 t.off] 91)).heap.size=wr.heap.size+1:=by simp
       have G1:=hid (g1.keep HFd.out)
       have G2:=hid (g2.keep HFd.out)
       have G3:=hid (Rep.keepF HFd.out g3 (no_type fact_ne.2.1 _))
       clear hG hx hac hblk hcell hfl hrep g1 g2 g3 k0 k1 k2 k3 k4 k5 k6 k7
       go_wp2_with fail
       obtain⟨wd,hwd⟩:∃ wq,wq=wr.alloc (.cells #[.string ⟨t.trait.toArray⟩,.slice r1 t.params.length d1v,.slice r2 t.bounds.length d2v,.string ts,.slice tp tn tc,.int .i64 to',.string ⟨t.func.toArray⟩,.int .i64 t.off] 91):=⟨_,rfl⟩
       obtain⟨b2,hb2⟩:∃ b,b=wr.heap.size:=⟨_,rfl⟩
       rw[← hwd] at HGd HFd HD hdz G1 G2 G3
       rw[← hb2] at HD hdz hFr
       have hb2F:b2≠w.heap.size+1:=by omega
       try rw[← hwd]
       try rw[← hb2]
       try rw[← hdz]
       have hFd:=HGd.out.lt
       have hl_HD:=HD.out.lt
       clear hwd hb2 hgl hl_HMr q4 HMr kk0 kk1 kk2 kk3 kk4 kk5 kk6 kk7
       refine((HGd.out.alloc _).text (StrV.new (l:=[t.trait,t.func]) (by exact hFd) (by rfl) (by rfl)) (by (try simp only[List.length_append,nF_len]);omega)).mono ?_
       rintro e w1 ⟨hG1,hF1,rfl⟩
       have HF1:=hid (((FrF.refl _ wd).alloc (.cells #[.string ⟨t.trait.toArray⟩,.string ⟨t.func.toArray⟩] 9)).trans hF1)
       have HG1:=hid hG1
       have HD_1:=hid (HF1.out.keep HD.out (by decide) hb2F)
       have hl_HD_1:=HD_1.out.lt
       clear hG1 hF1 
       have u1:=(HD_1.out.cell 1:w1.cell? ⟨b2,1,none⟩=some (.slice r1 t.params.length d1v))
       go_wp2_with fail
       refine(HG1.out.text (G1.out.keep HF1.out) (by (try simp only[List.length_append,nF_len]);omega)).mono ?_
       rintro e w2 ⟨hG2,hF2,rfl⟩
       have HF2:=hid (HF1.out.trans hF2)
       have HG2:=hid hG2
       have HD_2:=hid (HF2.out.keep HD.out (by decide) hb2F)
       have hl_HD_2:=HD_2.out.lt
       clear hG2 hF2 u1 hl_HD_1
       have u2:=(HD_2.out.cell 2:w2.cell? ⟨b2,2,none⟩=some (.slice r2 t.bounds.length d2v))
       go_wp2_with fail
       refine(HG2.out.bounds (G2.out.keep HF2.out) (by (try simp only[List.length_append,nF_len]);omega)).mono ?_
       rintro e w3 ⟨hG3,hF3,rfl⟩
       have HF3:=hid (HF2.out.trans hF3)
       have HG3:=hid hG3
       have HD_3:=hid (HF3.out.keep HD.out (by decide) hb2F)
       have hl_HD_3:=HD_3.out.lt
       clear hG3 hF3 u2 hl_HD_2
       have u3:=(HD_3.out.cell 3:w3.cell? ⟨b2,3,none⟩=some (.string ts))
       have u4:=(HD_3.out.cell 4:w3.cell? ⟨b2,4,none⟩=some (.slice tp tn tc))
       have u5:=(HD_3.out.cell 5:w3.cell? ⟨b2,5,none⟩=some (.int .i64 to'))
       go_wp2_with fail
       refine((HG3.out.alloc _).types (TysV.one (t:=t.type) HG3.out.lt (G3.out.keepF HF3.out (no_type fact_ne.2.1 _))) (by (try simp only[List.length_append,nF_len]);omega)).mono ?_
       rintro e w4 ⟨hG4,hF4,rfl⟩
       have HF4:=hid ((HF3.out.alloc (.cells #[.string ts,.slice tp tn tc,.int .i64 to'] 39)).trans hF4)
       have HG4:=hid hG4
       have HD_4:=hid (HF4.out.keep HD.out (by decide) hb2F)
       have hl_HD_4:=HD_4.out.lt
       clear hG4 hF4 u3 u4 u5 hl_HD_3
       have u7:=(HD_4.out.cell 7:w4.cell? ⟨b2,7,none⟩=some (.int .i64 t.off))
       go_wp2_with fail
       refine(HG4.out.at t.off (by (try simp only[List.length_append,nF_len]);omega)).mono ?_
       rintro e w5 ⟨hG5,hF5,rfl⟩
       have HF5:=hid (HF4.out.trans hF5)
       have HG5:=hid hG5
       have HD_5:=hid (HF5.out.keep HD.out (by decide) hb2F)
       have hl_HD_5:=HD_5.out.lt
       clear hG5 hF5 u7 hl_HD_4
       go_wp2_with fail
       go_roundw
       case rel=>exact⟨i+1,by go_num,by omega,by rw[fl_take _ HX.out,← List.append_assoc,← HAC.out];simpa only [gI,List.append_assoc] using HG5.out⟩
       case measure=>simp[RowKit.intOf];omega
      ·skip
       obtain rfl:i=M.impls.length:=by omega
       have hd:decide ((M.impls.length:Int)<(M.impls.length:Int))=false:=by simp
       rw[List.take_length] at hG
       have HGx:=hid hG
       have HFx:=hid hG.2
       clear hG
       have q5:=(HMr.out.cell 5:wr.cell? ⟨w.heap.size,5,none⟩=some (.slice p5 M.funcs.length c5v))
       go_wp2_with fail
       refine(fns_any M.funcs _ _ _ _ HGx.out (R5.out.keep HFx.out) (by (try simp only[List.length_append,nF_len]);omega)).mono ?_
       rintro e w51 ⟨hG51,hF51,rfl⟩
       have HF51:=hid (HFx.out.trans hF51)
       have HG51:=hid hG51
       have HM_51:=hid (HF51.out.keep HM.out (by decide) hbF)
       have hl_HM_51:=HM_51.out.lt
       clear hG51 hF51 q4 q5 hl_HMr
       obtain⟨v,hv⟩:=HG51.out.1
       obtain⟨af,haf⟩:∃ af,af=a3 ++ M.impls.flatMap (gI off) ++ fnsF off M.funcs:=⟨_,rfl⟩
       rw[← haf] at hv
       have hfm:Hid (factsM off M=af):=hid (by rw[factsM_fl,haf,HE3.out,HE2.out,HE1.out];simp only[List.nil_append,List.append_assoc])
       clear haf
       obtain⟨pv,cv,rfl⟩:=hv.l.shape
       have z0:=(hv.b.cell 0:w51.cell? ⟨w.heap.size+1,0,none⟩=some (.slice pv _ cv))
       have zl:=hv.b.lt
       have HV:=hid hv
       clear hv
       go_wp2_with fail
       go_ret
       refine⟨.slice pv _ cv,rfl,?_,?_⟩
       ·have e:=HV.out.l.mono (B':=w.heap.size) (by omega)
        rw[hfm.out];exact e
       ·have hfr:=HG51.out.2
        exact⟨hfr.os.trans HFW.out.os,hfr.tape.trans HFW.out.tape,hfr.output.trans HFW.out.output,Nat.le_trans HFW.out.size hfr.size,fun k hk hx=>(hfr.block k (Nat.lt_of_lt_of_le hk HFW.out.size) (by omega) (fun hc=>by omega)).trans (HFW.out.block k hk hx)⟩
theorem len_factQ (f:Fact):(factQ f).len=2:=rfl
theorem fact_full {w:World} {N:Nat→Prop} {f:Fact} {cs:List Value} (h:Rep w N (factQ f) cs):cs=[.string ⟨f.1.toArray⟩,.int .i64 f.2]:=by
 rw[factQ,rep_str] at h
 obtain⟨c1,rfl,h⟩:=h
 rw[rep_int] at h
 obtain⟨c3,rfl,h⟩:=h
 rw[rep_nil] at h
 subst h
 rfl
def ModIn (w:World) (M:ModD) (cs:List Value):Prop:=ModG w (fun k=>k<w.heap.size) M cs
theorem ModIn.of {w:World} {M:ModD} {cs:List Value} {N:Nat→Prop} (h:ModG w N M cs):ModIn w M cs:=h.mono (fun k _ hl=>⟨hl,rfl⟩)
theorem ModIn.keep {w w':World} {M:ModD} {cs:List Value} (h:ModIn w M cs) (hf:Fr [] w w'):ModIn w' M cs:=ModG.mono h (fun k hk hl=>⟨Nat.lt_of_lt_of_le hl hf.size,hf.block k hl (by simp)⟩)
theorem ModIn.six {w:World} {M:ModD} {cs:List Value} (h:ModIn w M cs):∃ p1 c1 p2 c2 p3 c3 p4 c4 p5 c5,cs=[.string ⟨M.name.toArray⟩,.slice p1 M.uses.length c1,.slice p2 M.datas.length c2,.slice p3 M.traits.length c3,.slice p4 M.impls.length c4,.slice p5 M.funcs.length c5]:=by
 have h':ModG w (fun k=>k≠w.heap.size+1) M cs:=ModG.mono h (fun k hk _=>⟨by have:k<w.heap.size:=hk;omega,rfl⟩)
 obtain⟨p1,c1v,p2,c2v,p3,c3v,p4,c4v,p5,c5v,rfl,_⟩:=mod_full h'
 exact⟨_,_,_,_,_,_,_,_,_,_,rfl⟩
set_option maxRecDepth 100000 in
set_option maxHeartbeats 1600000 in
theorem same_facts (M M':ModD) (off:Bool) (cs cs':List Value) (w:World) (h:ModIn w M cs) (h':ModIn w M' cs') (hf:factsM off M=factsM off M') (hlen:(factsM off M').length≤900000) :
  Calls Tryz.prog 7 #[.agg cs.toArray,.agg cs'.toArray,.bool off] w fun e w'=>e=.returned (.bool true)∧Fr [] w w':=by
 obtain⟨p1,c1,p2,c2,p3,c3,p4,c4,p5,c5,rfl⟩:=h.six
 obtain⟨s1,d1,s2,d2,s3,d3,s4,d4,s5,d5,rfl⟩:=h'.six
 have HA:=hid h
 have HB:=hid h'
 have HF:=hid hf
 have hlen1:(factsM off M).length≤900000:=by rw[hf];exact hlen
 have HW:Hid (Fr [] w ((w.alloc (.cells #[.string ⟨M.name.toArray⟩,.slice p1 M.uses.length c1,.slice p2 M.datas.length c2,.slice p3 M.traits.length c3,.slice p4 M.impls.length c4,.slice p5 M.funcs.length c5] 29)).alloc (.cells #[.string ⟨M'.name.toArray⟩,.slice s1 M'.uses.length d1,.slice s2 M'.datas.length d2,.slice s3 M'.traits.length d3,.slice s4 M'.impls.length d4,.slice s5 M'.funcs.length d5] 29))):=hid (((Fr.refl _ w).alloc _).alloc _)
 have HM:Hid (Blk ((w.alloc (.cells #[.string ⟨M.name.toArray⟩,.slice p1 M.uses.length c1,.slice p2 M.datas.length c2,.slice p3 M.traits.length c3,.slice p4 M.impls.length c4,.slice p5 M.funcs.length c5] 29)).alloc (.cells #[.string ⟨M'.name.toArray⟩,.slice s1 M'.uses.length d1,.slice s2 M'.datas.length d2,.slice s3 M'.traits.length d3,.slice s4 M'.impls.length d4,.slice s5 M'.funcs.length d5] 29)) (w.heap.size+1) 29 #[.string ⟨M'.name.toArray⟩,.slice s1 M'.uses.length d1,.slice s2 M'.datas.length d2,.slice s3 M'.traits.length d3,.slice s4 M'.impls.length d4,.slice s5 M'.funcs.length d5]):=hid (by have:=Blk.new (w.alloc (.cells #[.string ⟨M.name.toArray⟩,.slice p1 M.uses.length c1,.slice p2 M.datas.length c2,.slice p3 M.traits.length c3,.slice p4 M.impls.length c4,.slice p5 M.funcs.length c5] 29)) 29 #[.string ⟨M'.name.toArray⟩,.slice s1 M'.uses.length d1,.slice s2 M'.datas.length d2,.slice s3 M'.traits.length d3,.slice s4 M'.impls.length d4,.slice s5 M'.funcs.length d5];simpa using this)
 clear h h' hf
 go_enter Tryz.func7,Tryz.ntmps7
 go_wp2_with fail
 refine(facts_any M off _ _ (by exact HA.out.keep HW.out) hlen1).mono ?_
 rintro e w2 ⟨v1,rfl,hl1,hf1⟩
 obtain⟨x1,e1,rfl⟩:=hl1.shape
 have HL1:=hid hl1
 have HF1:=hid (HW.out.trans hf1)
 have HM2:=hid (HM.out.keep hf1 (by simp))
 have q0:=(HM2.out.cell 0:w2.cell? ⟨w.heap.size+1,0,none⟩=some (.string ⟨M'.name.toArray⟩))
 have q1:=(HM2.out.cell 1:w2.cell? ⟨w.heap.size+1,1,none⟩=some (.slice s1 M'.uses.length d1))
 have q2:=(HM2.out.cell 2:w2.cell? ⟨w.heap.size+1,2,none⟩=some (.slice s2 M'.datas.length d2))
 have q3:=(HM2.out.cell 3:w2.cell? ⟨w.heap.size+1,3,none⟩=some (.slice s3 M'.traits.length d3))
 have q4:=(HM2.out.cell 4:w2.cell? ⟨w.heap.size+1,4,none⟩=some (.slice s4 M'.impls.length d4))
 have q5:=(HM2.out.cell 5:w2.cell? ⟨w.heap.size+1,5,none⟩=some (.slice s5 M'.funcs.length d5))
 have hl2:=HM2.out.lt
 clear hl1 hf1 HW HM
 go_wp2_with fail
 refine(facts_any M' off _ _ (by exact HB.out.keep HF1.out) hlen).mono ?_
 rintro e w3 ⟨v2,rfl,hlb,hf2⟩
 obtain⟨x2,e2,rfl⟩:=hlb.shape
 have HL2:=hid hlb.row
 have HL1':=hid (HL1.out.keep hf2 (by simp)).row
 have HF3:=hid (HF1.out.trans hf2)
 obtain⟨fs,hfs⟩:∃ fs,fs=factsM off M':=⟨_,rfl⟩
 rw[HF.out] at HL1'
 rw[← hfs] at HL1' HL2 hlen
 have hle:(factsM off M).length=fs.length:=by rw[HF.out,hfs]
 have hle2:(factsM off M').length=fs.length:=by rw[hfs]
 have DN:((fs.length:Int) != (fs.length:Int))=false:=by simp
 rw[hle2]
 clear hlb hf2 HL1 q0 q1 q2 q3 q4 q5 hl2 hfs hle2 hlen1
 have hgo:(factsM off M).length=fs.length:=hle
 simp only[hgo]
 go_wp2_with fail
 go_loopw [9] (fun vi wx=>∃ i:Nat,vi=.int .i64 i∧i≤fs.length∧∃ n,wx=w3.drewN n) (fun vi _=>fs.length - (RowKit.intOf vi).toNat)
 case atStart=>exact⟨0,rfl,by omega,0,rfl⟩
 case round =>
  obtain⟨i,rfl,hi,n,rfl⟩:=hrel
  by_cases hil:i<fs.length
  ·have hd2:decide (i<fs.length)=true:=by simpa using hil
   have hd3:decide ((i:Int)<(fs.length:Int))=true:=by simp;omega
   have hdI:(i:Int)<(fs.length:Int):=by omega
   obtain⟨t,hx⟩:∃ x,fs[i]?=some x:=⟨fs[i],List.getElem?_eq_getElem hil⟩
   obtain⟨g,cap,ds,e,hgw,hcap,hmax,hrep,hcell⟩:=row_at HL1'.out len_factQ hx
   simp only[Value.slice.injEq] at e
   obtain⟨rfl,_,rfl⟩:=e
   obtain⟨g2,cap2,ds2,e,hgw2,hcap2,hmax2,hrep2,hcell2⟩:=row_at HL2.out len_factQ hx
   simp only[Value.slice.injEq] at e
   obtain⟨rfl,_,rfl⟩:=e
   obtain rfl:=fact_full hrep
   obtain rfl:=fact_full hrep2
   obtain⟨tx,ht⟩:∃ x:ByteArray,x=⟨t.1.toArray⟩:=⟨_,rfl⟩
   obtain⟨tn,htn⟩:∃ x:Int,x=t.2:=⟨_,rfl⟩
   rw[← ht,← htn] at hcell hcell2
   have hml:=hmax
   have hml2:=hmax2
   unfold maxLen at hml hml2
   have k0:=hcell 0 (by omega)
   have k1:=hcell 1 (by omega)
   have m0:=hcell2 0 (by omega)
   have m1:=hcell2 1 (by omega)
   simp only[List.getElem?_cons_succ,List.getElem?_cons_zero,Nat.add_zero] at k0 k1 m0 m1
   clear hcell hcell2 hrep hrep2 hx ht htn
   go_wp2_with fail
   go_quiet (fail)
   go_wp2_with fail
   go_roundw
   case rel=>exact⟨i+1,by go_num,by omega,_,rfl⟩
   case measure=>simp[RowKit.intOf];omega
  ·have hd2:decide (i<fs.length)=false:=by simpa using hil
   have hd3:decide ((i:Int)<(fs.length:Int))=false:=by simp;omega
   go_wp2_with fail
   go_ret
   exact⟨rfl,HF3.out.drewN _⟩
end Go.Proofs.YtghohohagbbajaaGreatDoor
