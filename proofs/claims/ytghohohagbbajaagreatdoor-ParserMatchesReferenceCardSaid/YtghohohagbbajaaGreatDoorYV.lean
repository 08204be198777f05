/- part of the proof -/
import Derived.Test.YtghohohagbbajaaGreatDoorYO
import Derived.Test.YtghohohagbbajaaGreatDoorYU
import Derived.Test.YtghohohagbbajaaGreatDoorYR
set_option linter.unusedVariables false
set_option linter.unusedSimpArgs false
set_option linter.unusedSectionVars false
namespace Go.Proofs.YtghohohagbbajaaGreatDoor
open Go.RowKit Go.Lib
open Px (Txt TyE VarD DataD TraitD BoundD ImplD ArgD ExprD StmtD ArmD FuncD ModD)
theorem Rep.keepF {F:Nat} {w w':World} (hf:FrF F w w'):∀ {q:Q} {cs:List Value},Rep w (fun k=>k≠F) q cs→q.no factT→Rep w' (fun k=>k≠F) q cs
 | .nil,cs,h,_=>by rw[Rep] at *;exact h
 | .int n r,cs,h,hn=>by
  rw[Rep] at *
  obtain⟨c,e,h⟩:=h
  exact⟨c,e,Rep.keepF hf h hn⟩
 | .str n r,cs,h,hn=>by
  rw[Rep] at *
  obtain⟨c,e,h⟩:=h
  exact⟨c,e,Rep.keepF hf h hn⟩
 | .sl E s n q r,cs,h,hn=>by
  rw[Rep] at *
  obtain⟨v,c,e,h1,h⟩:=h
  refine⟨v,c,e,?_,Rep.keepF hf h hn.2.2⟩
  rcases h1 with ⟨a,b,hq⟩|⟨g,cap,cu,xs,a,b,hN,hg,c1,c2,c3,c4,c5,hq⟩
  ·exact .inl ⟨a,b,Rep.keepF hf hq hn.2.1⟩
  ·exact .inr ⟨g,cap,cu,xs,a,b,hN,hf.keep hg hn.1 hN,c1,c2,c3,c4,c5,Rep.keepF hf hq hn.2.1⟩
def RowG (w:World) (N:Nat→Prop) (E s n:Nat) (q:Q) (v:Value):Prop:=(n=0∧∃ p c,v=.slice p 0 c)∨RowV w N E s n q v
theorem RowG.shape {w:World} {N:Nat→Prop} {E s n:Nat} {q:Q} {v:Value} (h:RowG w N E s n q v):∃ p c,v=.slice p n c:=by
 rcases h with ⟨rfl,p,c,rfl⟩|h
 ·exact⟨p,c,rfl⟩
 ·exact h.shape
theorem RowG.mono {w w':World} {N N':Nat→Prop} {E s n:Nat} {q:Q} {v:Value} (h:RowG w N E s n q v) (hk:∀ k,N k→k<w.heap.size→N' k∧w'.heap[k]?=w.heap[k]?):RowG w' N' E s n q v:=by
 rcases h with h|h
 ·exact .inl h
 ·exact .inr (h.mono hk)
structure RowF (w:World) (F E s n:Nat) (q:Q) (v:Value):Prop where
 r:RowG w (fun k=>k≠F) E s n q v
 e:E≠factT
 q:q.no factT
theorem RowF.shape {w:World} {F E s n:Nat} {q:Q} {v:Value} (h:RowF w F E s n q v):∃ p c,v=.slice p n c:=h.r.shape
theorem RowF.keep {w w':World} {F E s n:Nat} {q:Q} {v:Value} (h:RowF w F E s n q v) (hf:FrF F w w'):RowF w' F E s n q v:=by
 refine⟨?_,h.e,h.q⟩
 rcases h.r with hz|⟨a,b,hq⟩|⟨g,cap,cur,xs,a,b,hN,hg,c1,c2,c3,c4,c5,hq⟩
 ·exact .inl hz
 ·exact .inr (.inl ⟨a,b,hq.keepF hf h.q⟩)
 ·exact .inr (.inr ⟨g,cap,cur,xs,a,b,hN,hf.keep hg h.e hN,c1,c2,c3,c4,c5,hq.keepF hf h.q⟩)
theorem RowF.at {α:Type} {f:α→Q} {w:World} {F E s:Nat} {l:List α} {v:Value} {i:Nat} {a:α} (h:RowF w F E s l.length (rowsQ f l) v) (hsz:∀ a,(f a).len=s) (hi:l[i]?=some a) :
  ∃ g cap cur ds,v=.slice (some ⟨g,0,none⟩) l.length cap∧Blk w g E cur∧g≠F∧l.length≤cap∧cap≤maxLen∧Rep w (fun k=>k≠F) (f a) ds∧∀ j,j<s→cur[i * s+j]?=ds[j]?:=by
 have hl:i<l.length:=by
  rcases Nat.lt_or_ge i l.length with h|h
  ·exact h
  ·rw[List.getElem?_eq_none h] at hi;cases hi
 rcases h.r with ⟨hz,_⟩|⟨_,b,_⟩|⟨g,cap,cur,xs,rfl,b,hN,hg,c1,c2,c3,c4,c5,hq⟩
 ·omega
 ·omega
 ·obtain⟨ds,k1,k2,k3⟩:=rows_get hsz l xs i a hq hi
  refine⟨g,cap,cur,ds,rfl,hg,hN,c1,c2,k1,fun j hj=>?_⟩
  have hb:i * s+j<l.length * s:=by
   have h1:i * s+s≤l.length * s:=by rw[← Nat.succ_mul];exact Nat.mul_le_mul_right _ hl
   omega
  rw[← k3 j hj,← c4,List.getElem?_take,if_pos hb]
  simp
theorem reps_str {w:World} {N:Nat→Prop} : ∀ {l:List Txt} {cs:List Value},Rep w N (rowsQ strQ l) cs→cs=l.map (fun x=>.string ⟨x.toArray⟩)
 | [],cs,h=>by rw[rowsQ,rep_nil] at h;simpa using h
 | x :: l,cs,h=>by
  rw[rowsQ] at h
  obtain⟨a,b,rfl,h1,h2⟩:=h.split
  rw[strQ,rep_str] at h1
  obtain⟨c,rfl,h1⟩:=h1
  rw[rep_nil] at h1
  subst h1
  rw[reps_str h2];rfl
theorem StrV.of_row {w:World} {F:Nat} {l:List Txt} {v:Value} (h:RowV w (fun k=>k≠F) 9 1 l.length (rowsQ strQ l) v):StrV w F v l:=by
 rcases h with ⟨rfl,b,_⟩|⟨g,cap,cur,xs,rfl,b,hN,hg,c1,c2,c3,c4,c5,hq⟩
 ·exact .inl ⟨List.eq_nil_of_length_eq_zero b,_,_,rfl⟩
 ·refine .inr ⟨g,cap,cur,rfl,c1,hN,hg,fun i x hx=>?_⟩
  have hi:i<l.length:=by
   rcases Nat.lt_or_ge i l.length with h|h
   ·exact h
   ·rw[List.getElem?_eq_none h] at hx;cases hx
  have e:=reps_str hq
  rw[← c4] at e
  have e2:=congrArg (fun z:List Value=>z[i]?) e
  simp only[List.getElem?_take,List.getElem?_map,hx,Option.map_some] at e2
  rw[if_pos (by omega)] at e2
  simpa using e2
theorem StrV.of_rowG {w:World} {F:Nat} {l:List Txt} {v:Value} (h:RowG w (fun k=>k≠F) 9 1 l.length (rowsQ strQ l) v):StrV w F v l:=by
 rcases h with ⟨hz,p,c,rfl⟩|h
 ·exact .inl ⟨List.eq_nil_of_length_eq_zero hz,p,c,rfl⟩
 ·exact .of_row h
theorem StrV.new {w:World} {F:Nat} (hF:F<w.heap.size) (l:List Txt) {cs:Array Value} {n:Nat} (hn:n=l.length) (hcs:cs=(l.map (fun x=>Value.string ⟨x.toArray⟩)).toArray):StrV (w.alloc (.cells cs 9)) F (.slice (some ⟨w.heap.size,0,none⟩) n n) l:=by
 subst hn hcs
 refine .inr ⟨w.heap.size,l.length,_,rfl,Nat.le_refl _,by omega,Blk.new _ _ _,fun i x hx=>?_⟩
 simp[hx]
theorem FrF.alloc {F:Nat} {a w:World} (h:FrF F a w) (o:Obj):FrF F a (w.alloc o):=h.trans (FrF.of ((Fr.refl [] w).alloc o) (by simp))
def Got (F B:Nat) (off:Bool) (w0 w:World) (acc:List Fact):Prop:=(∃ v,FlatI w F B off acc v)∧FrF F w0 w
section
variable {F B:Nat} {off:Bool} {w0 w:World} {acc:List Fact}
theorem Got.alloc (h:Got F B off w0 w acc) (o:Obj):Got F B off w0 (w.alloc o) acc:=by
 obtain⟨⟨v,hI⟩,hF⟩:=h
 exact⟨⟨v,hI.alloc o⟩,hF.trans (FrF.of ((Fr.refl [] w).alloc o) (by simp))⟩
theorem Got.lt (h:Got F B off w0 w acc):F<w.heap.size:=by
 obtain⟨⟨v,hI⟩,hF⟩:=h
 exact hI.b.lt
theorem Got.numbers (h:Got F B off w0 w acc) (g cap n:Nat) (l:List Int) (hn:n=l.length) (hg:Blk w g 3 ((l.map fun n=>Value.int .i64 n).toArray)) (hgF:g≠F) (hlen:acc.length+l.length≤1000000) (hcap:n≤cap) :
  Calls Tryz.prog 32 #[.pointer (some ⟨F,0,none⟩),.slice (some ⟨g,0,none⟩) n cap] w fun e w'=>Got F B off w0 w' (acc ++ l.map (fun n=>([],n)))∧FrF F w w'∧e=.returned (.tuple #[]):=by
 subst hn
 obtain⟨⟨v,hI⟩,hF⟩:=h
 refine(flat_number F B g cap off acc v l w hI hg hgF hlen hcap).mono ?_
 rintro e w' ⟨hI',hF',rfl⟩
 exact⟨⟨hI',hF.trans hF'⟩,hF',rfl⟩
theorem Got.number {g:Nat} {n:Int} (h:Got F B off w0 w acc) (hg:Blk w g 3 #[.int .i64 n]) (hgF:g≠F) (hlen:acc.length+1≤1000000) :
  Calls Tryz.prog 32 #[.pointer (some ⟨F,0,none⟩),.slice (some ⟨g,0,none⟩) 1 1] w fun e w'=>Got F B off w0 w' (acc ++ nF n)∧FrF F w w'∧e=.returned (.tuple #[]) :=
 h.numbers g 1 1 [n] rfl hg hgF hlen (Nat.le_refl _)
theorem Got.number2 {g:Nat} {n m:Int} (h:Got F B off w0 w acc) (hg:Blk w g 3 #[.int .i64 n,.int .i64 m]) (hgF:g≠F) (hlen:acc.length+2≤1000000) :
  Calls Tryz.prog 32 #[.pointer (some ⟨F,0,none⟩),.slice (some ⟨g,0,none⟩) 2 2] w fun e w'=>Got F B off w0 w' (acc ++ (nF n ++ nF m))∧FrF F w w'∧e=.returned (.tuple #[]) :=
 h.numbers g 2 2 [n,m] rfl hg hgF hlen (Nat.le_refl _)
theorem Got.number3 {g:Nat} {n m k:Int} (h:Got F B off w0 w acc) (hg:Blk w g 3 #[.int .i64 n,.int .i64 m,.int .i64 k]) (hgF:g≠F) (hlen:acc.length+3≤1000000) :
  Calls Tryz.prog 32 #[.pointer (some ⟨F,0,none⟩),.slice (some ⟨g,0,none⟩) 3 3] w fun e w'=>Got F B off w0 w' (acc ++ (nF n ++ (nF m ++ nF k)))∧FrF F w w'∧e=.returned (.tuple #[]) :=
 h.numbers g 3 3 [n,m,k] rfl hg hgF hlen (Nat.le_refl _)
theorem Got.at (h:Got F B off w0 w acc) (n:Nat) (hlen:acc.length+1≤1000000) :
  Calls Tryz.prog 34 #[.pointer (some ⟨F,0,none⟩),.int .i64 n] w fun e w'=>Got F B off w0 w' (acc ++ oF off n)∧FrF F w w'∧e=.returned (.tuple #[]):=by
 obtain⟨⟨v,hI⟩,hF⟩:=h
 refine(flat_at F B off acc v n w hI hlen).mono ?_
 rintro e w' ⟨hI',hF',rfl⟩
 exact⟨⟨hI',hF.trans hF'⟩,hF',rfl⟩
theorem tF_le (l:List Txt):(tF l).length=1+l.length:=by simp[tF,nF];omega
theorem Got.text {sv:Value} {l:List Txt} (h:Got F B off w0 w acc) (hs:StrV w F sv l) (hlen:acc.length+(tF l).length≤1000000) :
  Calls Tryz.prog 31 #[.pointer (some ⟨F,0,none⟩),sv] w fun e w'=>Got F B off w0 w' (acc ++ tF l)∧FrF F w w'∧e=.returned (.tuple #[]):=by
 obtain⟨⟨v,hI⟩,hF⟩:=h
 refine(flat_text F B off acc v sv l w hI hs (by rw[tF_le] at hlen;omega)).mono ?_
 rintro e w' ⟨hI',hF',rfl⟩
 exact⟨⟨hI',hF.trans hF'⟩,hF',rfl⟩
end
theorem fl_take {α:Type} (g:α→List Fact) {l:List α} {i:Nat} {t:α} (h:l[i]?=some t):(l.take (i+1)).flatMap g=(l.take i).flatMap g ++ g t:=by
 rw[List.take_add_one,h];simp
theorem fl_len {α:Type} (g:α→List Fact) {l:List α} {i:Nat} {t:α} (h:l[i]?=some t):((l.take i).flatMap g).length+(g t).length≤(l.flatMap g).length:=by
 rw[← List.length_append,← fl_take g h]
 conv=>rhs;rw[← List.take_append_drop (i+1) l,List.flatMap_append,List.length_append]
 omega
theorem fTs_fl (off:Bool):∀ l:List TyE,fTs off l=l.flatMap (fT off)
 | []=>by rw[fTs];rfl
 | t :: r=>by rw[fTs,fTs_fl off r,List.flatMap_cons]
theorem typesF_fl (off:Bool) (l:List TyE):typesF off l=nF l.length ++ l.flatMap (fT off):=by rw[typesF,fTs_fl]
theorem fT_mk (off:Bool) (x:Txt) (a:List TyE) (o:Nat):fT off (.mk x a o)=tF [x] ++ (oF off o ++ typesF off a):=by rw[fT,typesF]
theorem fact_ne:9≠factT∧39≠factT∧131≠factT∧155≠factT:=by decide
theorem type_full {w:World} {F:Nat} {x:Txt} {a:List TyE} {o:Nat} {cs:List Value} (h:Rep w (fun k=>k≠F) (typeQ (.mk x a o)) cs):∃ p c,cs=[.string ⟨x.toArray⟩,.slice p a.length c,.int .i64 o]∧RowF w F 39 3 a.length (rowsQ typeQ a) (.slice p a.length c):=by
 rw[typeQ_mk,rep_str] at h
 obtain⟨c1,rfl,h⟩:=h
 rw[typesS,rep_sl] at h
 obtain⟨v,c2,rfl,hv,h⟩:=h
 obtain⟨p,c,rfl⟩:=hv.shape
 rw[rep_int] at h
 obtain⟨c3,rfl,h⟩:=h
 rw[rep_nil] at h
 subst h
 exact⟨p,c,rfl,.inr hv,fact_ne.2.1,no_rows (no_type fact_ne.2.1) a⟩
theorem size_at {l:List TyE} {i:Nat} {x:Txt} {a:List TyE} {o:Nat} (h:l[i]?=some (.mk x a o)):SizeOf.sizeOf a<SizeOf.sizeOf l:=by
 have h1:=List.sizeOf_lt_of_mem (List.mem_of_getElem? h)
 have h2:SizeOf.sizeOf (TyE.mk x a o)=1+SizeOf.sizeOf x+SizeOf.sizeOf a+SizeOf.sizeOf o:=by rw[TyE.mk.sizeOf_spec]
 omega
set_option maxRecDepth 100000 in
set_option maxHeartbeats 1600000 in
theorem Got.types_lt {F B:Nat} {off:Bool} : ∀ (m:Nat) {w0 w:World} {acc:List Fact} {sv:Value} {l:List TyE},Got F B off w0 w acc→SizeOf.sizeOf l<m→RowF w F 39 3 l.length (rowsQ typeQ l) sv→acc.length+(typesF off l).length≤900000 →
  Calls Tryz.prog 33 #[.pointer (some ⟨F,0,none⟩),sv] w fun e w'=>Got F B off w0 w' (acc ++ typesF off l)∧FrF F w w'∧e=.returned (.tuple #[]):=by
 intro m
 induction m with
 | zero=>intros;omega
 | succ m ih =>
  intro w0 w acc sv l h hm hs hlen
  obtain⟨ps,cs,rfl⟩:=hs.shape
  rw[typesF_fl,List.length_append,nF_len] at hlen
  have H0:=hid h.2
  have H:Hid (Got F B off w w acc):=hid ⟨h.1,FrF.refl _ _⟩
  have HS:=hid hs
  have hFw:=h.lt
  clear h hs
  go_enter Tryz.func33,Tryz.ntmps33
  go_wp2_with fail
  refine((H.out.alloc _).number (n:=l.length) (by exact Blk.new _ _ _) (by omega) (by omega)).mono ?_
  rintro e w1 ⟨hG1,hF1,rfl⟩
  have HG1:=hid hG1
  clear hG1 hF1
  go_wp2_with fail
  go_loopw [4] (fun vi wr=>∃ i:Nat,vi=.int .i64 i∧i≤l.length∧Got F B off w wr ((acc ++ nF l.length) ++ (l.take i).flatMap (fT off))) (fun vi _=>l.length - (RowKit.intOf vi).toNat)
  case atStart=>exact⟨0,rfl,by omega,by simpa using HG1.out⟩
  case round =>
   obtain⟨i,rfl,hi,hG⟩:=hrel
   by_cases hlt:i<l.length
   ·obtain⟨t,hx⟩:∃ x,l[i]?=some x:=⟨l[i],List.getElem?_eq_getElem hlt⟩
    obtain⟨x,a,o,rfl⟩:∃ x a o,t=TyE.mk x a o:=by cases t;exact⟨_,_,_,rfl⟩
    obtain⟨g,cap,cur,ds,e,hblk,hgF,hcap,hmax,hrep,hcell⟩:=(HS.out.keep hG.2).at len_typeQ hx
    simp only[Value.slice.injEq] at e
    obtain⟨rfl,_,rfl⟩:=e
    obtain⟨pa,ca,rfl,hrow⟩:=type_full hrep
    have hml:=hmax
    unfold maxLen at hml
    have hsz:=size_at hx
    have k0:=hcell 0 (by omega)
    have k1:=hcell 1 (by omega)
    have k2:=hcell 2 (by omega)
    simp only[List.getElem?_cons_succ,List.getElem?_cons_zero,Nat.add_zero] at k0 k1 k2
    have c0:=(hblk.cell _).trans k0
    have K1:=hid k1
    have K2:=hid k2
    have hgl:=hblk.lt
    have hfl:=fl_len (fT off) hx
    obtain⟨ac,hac⟩:∃ ac,ac=(acc ++ nF l.length) ++ (l.take i).flatMap (fT off):=⟨_,rfl⟩
    have hal:ac.length+(tF [x]).length+(oF off o).length+(typesF off a).length≤900000:=by rw[hac];rw[fT_mk] at hfl;simp only[List.length_append,nF_len] at hfl ⊢;omega
    rw[← hac] at hG
    have hd:decide ((i:Int)<(l.length:Int))=true:=by simp;omega
    have hd':decide (i<l.length)=true:=by simp;omega
    have hdI:(i:Int)<(l.length:Int):=by omega
    have HG:=hid hG
    have HX:=hid hx
    have HAC:=hid hac
    have HB:=hid hblk
    have HR:=hid hrow
    have hFr:=hG.lt
    clear hG hx hac hblk hrow hrep hcell k0 k1 k2 hfl
    go_wp2_with fail
    refine((HG.out.alloc _).text (StrV.new (l:=[x]) (by exact hFr) (by rfl) (by rfl)) (by omega)).mono ?_
    rintro e w2 ⟨hG2,hF2,rfl⟩
    have HF2:=hid (((FrF.refl F wr).alloc (.cells #[.string ⟨x.toArray⟩] 9)).trans hF2)
    have HG2:=hid hG2
    have HB2:=hid (HF2.out.keep HB.out fact_ne.2.1 hgF)
    have c2:=(HB2.out.cell _).trans K2.out
    have hgl2:=HB2.out.lt
    clear hG2 hF2 hFr hgl c0
    go_wp2_with fail
    refine(HG2.out.at o (by simp only[List.length_append];omega)).mono ?_
    rintro e w3 ⟨hG3,hF3,rfl⟩
    have HF3:=hid (HF2.out.trans hF3)
    have HG3:=hid hG3
    have HB3:=hid (HF3.out.keep HB.out fact_ne.2.1 hgF)
    have c1:=(HB3.out.cell _).trans K1.out
    have hgl3:=HB3.out.lt
    clear hG3 hF3 hgl2 c2
    go_wp2_with fail
    refine(ih HG3.out (by omega) (HR.out.keep HF3.out) (by simp only[List.length_append];omega)).mono ?_
    rintro e w4 ⟨hG4,hF4,rfl⟩
    have HG4:=hid hG4
    clear hG4 hF4 hgl3 c1
    go_wp2_with fail
    go_roundw
    case rel=>exact⟨i+1,by go_num,by omega,by rw[fl_take _ HX.out,fT_mk,← List.append_assoc,← HAC.out];simpa only [List.append_assoc] using HG4.out⟩
    case measure=>simp[RowKit.intOf];omega
   ·obtain rfl:i=l.length:=by omega
    have hd:decide ((l.length:Int)<(l.length:Int))=false:=by simp
    have HG:=hid hG
    clear hG
    go_wp2_with fail
    first|go_end0|refine bodyPost_ret (results_none rfl _ _ _) rfl ?_
    have e:=HG.out
    rw[List.take_length,List.append_assoc,← typesF_fl] at e
    exact⟨⟨e.1,H0.out.trans e.2⟩,e.2,rfl⟩
theorem Got.types {F B:Nat} {off:Bool} {w0 w:World} {acc:List Fact} {sv:Value} {l:List TyE} (h:Got F B off w0 w acc) (hs:RowF w F 39 3 l.length (rowsQ typeQ l) sv) (hlen:acc.length+(typesF off l).length≤900000) :
  Calls Tryz.prog 33 #[.pointer (some ⟨F,0,none⟩),sv] w fun e w'=>Got F B off w0 w' (acc ++ typesF off l)∧FrF F w w'∧e=.returned (.tuple #[]):=Got.types_lt _ h (Nat.lt_succ_self _) hs hlen
theorem farF:Far factT:=⟨by decide,by decide,by decide,by decide,by decide,by decide,by decide⟩
section
variable {w:World} {F:Nat}
abbrev RepF (w:World) (F:Nat) (q:Q) (cs:List Value):Prop:=Rep w (fun k=>k≠F) q cs
def TysV (w:World) (F:Nat) (l:List TyE) (v:Value):Prop:=RowF w F 39 3 l.length (rowsQ typeQ l) v
def BdsV (w:World) (F:Nat) (l:List BoundD) (v:Value):Prop:=RowF w F 131 3 l.length (rowsQ boundQ l) v
def AgsV (w:World) (F:Nat) (l:List ArgD) (v:Value):Prop:=RowF w F 155 6 l.length (rowsQ argQ l) v
def StsV (w:World) (F:Nat) (l:List StmtD) (v:Value):Prop:=RowF w F 52 17 l.length (rowsQ stmtQ l) v
def AmsV (w:World) (F:Nat) (l:List ArmD) (v:Value):Prop:=RowF w F 138 4 l.length (rowsQ armQ l) v
def FnsV (w:World) (F:Nat) (l:List FuncD) (v:Value):Prop:=RowF w F 42 10 l.length (rowsQ funcQ l) v
theorem TysV.mk {l:List TyE} {v:Value} (h:RowV w (fun k=>k≠F) 39 3 l.length (rowsQ typeQ l) v):TysV w F l v:=⟨.inr h,fact_ne.2.1,no_rows (no_type fact_ne.2.1) l⟩
theorem BdsV.mk {l:List BoundD} {v:Value} (h:RowV w (fun k=>k≠F) 131 3 l.length (rowsQ boundQ l) v):BdsV w F l v:=⟨.inr h,fact_ne.2.2.1,no_rows no_bound l⟩
theorem AgsV.mk {l:List ArgD} {v:Value} (h:RowV w (fun k=>k≠F) 155 6 l.length (rowsQ argQ l) v):AgsV w F l v:=⟨.inr h,fact_ne.2.2.2,no_rows (no_arg fact_ne.2.1) l⟩
theorem StsV.mk {l:List StmtD} {v:Value} (h:RowV w (fun k=>k≠F) 52 17 l.length (rowsQ stmtQ l) v):StsV w F l v:=⟨.inr h,farF.h5,no_rows (no_stmt farF) l⟩
theorem AmsV.mk {l:List ArmD} {v:Value} (h:RowV w (fun k=>k≠F) 138 4 l.length (rowsQ armQ l) v):AmsV w F l v:=⟨.inr h,farF.h6,no_rows (no_arm farF) l⟩
theorem FnsV.mk {l:List FuncD} {v:Value} (h:RowV w (fun k=>k≠F) 42 10 l.length (rowsQ funcQ l) v):FnsV w F l v:=⟨.inr h,farF.h7,no_rows (no_func farF) l⟩
theorem TysV.one {t:TyE} {cs:List Value} (hF:F<w.heap.size) (h:RepF w F (typeQ t) cs):TysV (w.alloc (.cells cs.toArray 39)) F [t] (.slice (some ⟨w.heap.size,0,none⟩) 1 1):=by
 refine TysV.mk (.inr ⟨w.heap.size,1,cs.toArray,cs,rfl,by simp,by omega,Blk.new _ _ _,by simp,by unfold maxLen;decide,?_,?_,?_,?_⟩)
 ·have:=h.len
  rw[len_typeQ] at this
  simp[this]
 ·have:=h.len
  rw[len_typeQ] at this
  simp only[List.length_singleton,Nat.one_mul]
  rw[← this];simp
 ·have:=h.len
  rw[len_typeQ] at this
  simpa using this
 ·rw[rowsQ_one]
  exact h.mono (fun k hk hl=>⟨hk,Below.heap_alloc _ _ _ hl⟩)
theorem bound_full {b:BoundD} {cs:List Value} (h:RepF w F (boundQ b) cs):cs=[.string ⟨b.param.toArray⟩,.string ⟨b.trait.toArray⟩,.int .i64 b.off]:=by
 unfold RepF at h
 rw[boundQ,rep_str] at h
 obtain⟨c1,rfl,h⟩:=h
 rw[rep_str] at h
 obtain⟨c2,rfl,h⟩:=h
 rw[rep_int] at h
 obtain⟨c3,rfl,h⟩:=h
 rw[rep_nil] at h
 subst h
 rfl
theorem arg_full {d:ArgD} {cs:List Value} (h:RepF w F (argQ d) cs):∃ s p n c o,cs=[.string ⟨d.name.toArray⟩,.string s,.slice p n c,.int .i64 o,.int .i64 d.capture,.int .i64 d.off]∧RepF w F (typeQ d.type) [.string s,.slice p n c,.int .i64 o]:=by
 unfold RepF at h
 rw[argQ,rep_str] at h
 obtain⟨c1,rfl,h⟩:=h
 obtain⟨a,b,rfl,ha,hb⟩:=h.split
 clear h
 obtain⟨s,p,n,c,o,rfl⟩:=type_shape ha
 rw[rep_int] at hb
 obtain⟨c4,rfl,h⟩:=hb
 rw[rep_int] at h
 obtain⟨c5,rfl,h⟩:=h
 rw[rep_nil] at h
 subst h
 exact⟨_,_,_,_,_,rfl,ha⟩
theorem expr_full {e:ExprD} {cs:List Value} (h:RepF w F (exprQ e) cs):∃ pn cn pt ct,cs=[.int .i64 e.kind,.string ⟨e.op.toArray⟩,.string ⟨e.name.toArray⟩,.string ⟨e.variant.toArray⟩,.slice pn e.names.length cn,.int .i64 e.num,.slice pt e.type.length ct,.int .i64 e.off] ∧
  StrV w F (.slice pn e.names.length cn) e.names∧TysV w F e.type (.slice pt e.type.length ct):=by
 unfold RepF at h
 rw[exprQ,rep_int] at h
 obtain⟨c1,rfl,h⟩:=h
 rw[rep_str] at h
 obtain⟨c2,rfl,h⟩:=h
 rw[rep_str] at h
 obtain⟨c3,rfl,h⟩:=h
 rw[rep_str] at h
 obtain⟨c4,rfl,h⟩:=h
 rw[strsQ,rep_sl] at h
 obtain⟨v,c5,rfl,hv,h⟩:=h
 rw[rep_int] at h
 obtain⟨c6,rfl,h⟩:=h
 rw[typesS,rep_sl] at h
 obtain⟨v2,c7,rfl,hv2,h⟩:=h
 rw[rep_int] at h
 obtain⟨c8,rfl,h⟩:=h
 rw[rep_nil] at h
 subst h
 obtain⟨p1,d1,rfl⟩:=hv.shape
 obtain⟨p2,d2,rfl⟩:=hv2.shape
 exact⟨_,_,_,_,rfl,.of_row hv,.mk hv2⟩
def scells (k:Int) (x:ByteArray) (p1:Option Addr) (n1 c1:Nat) (p2:Option Addr) (n2 c2:Nat) (ek:Int) (op en ev:ByteArray) (p3:Option Addr) (n3 c3:Nat) (num:Int) (p4:Option Addr) (n4 c4:Nat) (eo:Int) (p5:Option Addr) (n5 c5:Nat) (p6:Option Addr) (n6 c6:Nat) (p7:Option Addr) (n7 c7:Nat) (p8:Option Addr) (n8 c8:Nat) (o:Int):List Value :=
 [.int .i64 k,.string x,.slice p1 n1 c1,.slice p2 n2 c2,.int .i64 ek,.string op,.string en,.string ev,.slice p3 n3 c3,.int .i64 num,.slice p4 n4 c4,.int .i64 eo,.slice p5 n5 c5,.slice p6 n6 c6,.slice p7 n7 c7,.slice p8 n8 c8,.int .i64 o]
theorem stmt_full {k:Nat} {x:Txt} {l:List Txt} {t:List TyE} {e:ExprD} {th el:List StmtD} {ar:List ArmD} {fn:List FuncD} {o:Nat} {cs:List Value} (h:RepF w F (stmtQ (.mk k x l t e th el ar fn o)) cs) :
  ∃ p1 c1 p2 c2 p3 c3 p4 c4 p5 c5 p6 c6 p7 c7 p8 c8,cs=scells k ⟨x.toArray⟩ p1 l.length c1 p2 t.length c2 e.kind ⟨e.op.toArray⟩ ⟨e.name.toArray⟩ ⟨e.variant.toArray⟩ p3 e.names.length c3 e.num p4 e.type.length c4 e.off p5 th.length c5 p6 el.length c6 p7 ar.length c7 p8 fn.length c8 o ∧
   StrV w F (.slice p1 l.length c1) l∧TysV w F t (.slice p2 t.length c2)∧StrV w F (.slice p3 e.names.length c3) e.names∧TysV w F e.type (.slice p4 e.type.length c4)∧StsV w F th (.slice p5 th.length c5)∧StsV w F el (.slice p6 el.length c6)∧AmsV w F ar (.slice p7 ar.length c7)∧FnsV w F fn (.slice p8 fn.length c8):=by
 unfold RepF at h
 rw[stmtQ_mk,rep_int] at h
 obtain⟨c1,rfl,h⟩:=h
 rw[rep_str] at h
 obtain⟨c2,rfl,h⟩:=h
 rw[strsQ,rep_sl] at h
 obtain⟨u1,c3,rfl,h1,h⟩:=h
 rw[typesS,rep_sl] at h
 obtain⟨u2,c4,rfl,h2,h⟩:=h
 obtain⟨a,b,rfl,ha,hb⟩:=h.split
 clear h
 obtain⟨pn,cn,pt,ct,rfl,h3,h4⟩:=expr_full ha
 rw[stmtsS,rep_sl] at hb
 obtain⟨u5,c5,rfl,h5,h⟩:=hb
 rw[stmtsS,rep_sl] at h
 obtain⟨u6,c6,rfl,h6,h⟩:=h
 rw[armsS,rep_sl] at h
 obtain⟨u7,c7,rfl,h7,h⟩:=h
 rw[funcsS,rep_sl] at h
 obtain⟨u8,c8,rfl,h8,h⟩:=h
 rw[rep_int] at h
 obtain⟨c9,rfl,h⟩:=h
 rw[rep_nil] at h
 subst h
 obtain⟨q1,d1,rfl⟩:=h1.shape
 obtain⟨q2,d2,rfl⟩:=h2.shape
 obtain⟨q5,d5,rfl⟩:=h5.shape
 obtain⟨q6,d6,rfl⟩:=h6.shape
 obtain⟨q7,d7,rfl⟩:=h7.shape
 obtain⟨q8,d8,rfl⟩:=h8.shape
 exact⟨_,_,_,_,_,_,_,_,_,_,_,_,_,_,_,_,rfl,.of_row h1,.mk h2,h3,h4,.mk h5,.mk h6,.mk h7,.mk h8⟩
theorem arm_full {x:Txt} {l:List Txt} {b:List StmtD} {o:Nat} {cs:List Value} (h:RepF w F (armQ (.mk x l b o)) cs) :
  ∃ p1 c1 p2 c2,cs=[.string ⟨x.toArray⟩,.slice p1 l.length c1,.slice p2 b.length c2,.int .i64 o]∧StrV w F (.slice p1 l.length c1) l∧StsV w F b (.slice p2 b.length c2):=by
 unfold RepF at h
 rw[armQ_mk,rep_str] at h
 obtain⟨c1,rfl,h⟩:=h
 rw[strsQ,rep_sl] at h
 obtain⟨u1,c2,rfl,h1,h⟩:=h
 rw[stmtsS,rep_sl] at h
 obtain⟨u2,c3,rfl,h2,h⟩:=h
 rw[rep_int] at h
 obtain⟨c4,rfl,h⟩:=h
 rw[rep_nil] at h
 subst h
 obtain⟨q1,d1,rfl⟩:=h1.shape
 obtain⟨q2,d2,rfl⟩:=h2.shape
 exact⟨_,_,_,_,rfl,.of_row h1,.mk h2⟩
theorem func_full {x:Txt} {p:List Txt} {bs:List BoundD} {c a:List ArgD} {t:TyE} {b:List StmtD} {o:Nat} {cs:List Value} (h:RepF w F (funcQ (.mk x p bs c a t b o)) cs) :
  ∃ p1 c1 p2 c2 p3 c3 p4 c4 ts tp tn tc to' p6 c6,cs=fcells ⟨x.toArray⟩ p1 p.length c1 p2 bs.length c2 p3 c.length c3 p4 a.length c4 ts tp tn tc to' p6 b.length c6 o∧RepF w F (typeQ t) [.string ts,.slice tp tn tc,.int .i64 to'] ∧
   StrV w F (.slice p1 p.length c1) p∧BdsV w F bs (.slice p2 bs.length c2)∧AgsV w F c (.slice p3 c.length c3)∧AgsV w F a (.slice p4 a.length c4)∧StsV w F b (.slice p6 b.length c6):=by
 unfold RepF at h
 rw[funcQ_mk,rep_str] at h
 obtain⟨c1,rfl,h⟩:=h
 rw[strsQ,rep_sl] at h
 obtain⟨u,c2,rfl,h1,h⟩:=h
 rw[boundsS,rep_sl] at h
 obtain⟨u2,c3,rfl,h2,h⟩:=h
 rw[argsS,rep_sl] at h
 obtain⟨u3,c4,rfl,h3,h⟩:=h
 rw[argsS,rep_sl] at h
 obtain⟨u4,c5,rfl,hu,h⟩:=h
 obtain⟨k,m,rfl,ha,hb⟩:=h.split
 clear h
 obtain⟨y,p5,n5,c50,o5,rfl⟩:=type_shape ha
 rw[stmtsS,rep_sl] at hb
 obtain⟨u5,c6,rfl,hv,h⟩:=hb
 rw[rep_int] at h
 obtain⟨c7,rfl,h⟩:=h
 rw[rep_nil] at h
 subst h
 obtain⟨q1,d1,rfl⟩:=h1.shape
 obtain⟨q2,d2,rfl⟩:=h2.shape
 obtain⟨q3,d3,rfl⟩:=h3.shape
 obtain⟨q4,d4,rfl⟩:=hu.shape
 obtain⟨q5,d5,rfl⟩:=hv.shape
 exact⟨_,_,_,_,_,_,_,_,_,_,_,_,_,_,_,rfl,ha,.of_row h1,.mk h2,.mk h3,.mk hu,.mk hv⟩
end
end Go.Proofs.YtghohohagbbajaaGreatDoor
