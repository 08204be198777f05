/- part of the proof -/
import Derived.Test.YtghohohagbbajaaGreatDoorYS
import Derived.Test.YtghohohagbbajaaGreatDoorYBG
import Derived.Deep.RegionLaw
set_option linter.unusedVariables false
set_option linter.unusedSimpArgs false
set_option linter.unusedSectionVars false
namespace Go.Proofs.YtghohohagbbajaaGreatDoor
open Go.RowKit Go.Lib
open Px (Txt)
def factQ (f:Fact):Q:=.str f.1 (.int f.2 .nil)
theorem info_fact:(Tryz.prog.info? 66).map (fun i=>(i.zero,i.size,i.bytes))=some (some (.agg #[.string ⟨#[]⟩,.int .i64 0]),2,24):=by kernel_rfl
abbrev factT:Nat:=66
def IsFact (w:World) (k:Nat):Prop:=∃ cur,w.heap[k]?=some (.cells cur factT (0,0))
structure FrF (F:Nat) (w w':World):Prop where
 os:w'.os=w.os
 tape:w'.tape=w.tape
 output:w'.output=w.output
 size:w.heap.size≤w'.heap.size
 block:∀ k,k<w.heap.size→k≠F→(F<k→¬ IsFact w k)→w'.heap[k]?=w.heap[k]?
theorem FrF.refl (F:Nat) (w:World):FrF F w w:=⟨rfl,rfl,rfl,Nat.le_refl _,fun _ _ _ _=>rfl⟩
theorem FrF.trans {F:Nat} {a b c:World} (h:FrF F a b) (k:FrF F b c):FrF F a c :=
 ⟨k.os.trans h.os,k.tape.trans h.tape,k.output.trans h.output,Nat.le_trans h.size k.size,fun i hi hx hf=>(k.block i (Nat.lt_of_lt_of_le hi h.size) hx (fun hlt ⟨cur,e⟩=>hf hlt ⟨cur,by rw[← h.block i hi hx hf];exact e⟩)).trans (h.block i hi hx hf)⟩
theorem FrF.of {F:Nat} {X:List Nat} {w w':World} (h:Fr X w w') (hX:∀ k∈X,k=F∨(F<k∧IsFact w k)):FrF F w w' :=
 ⟨h.os,h.tape,h.output,h.size,fun k hk hF hf=>h.block k hk (fun hx=>by rcases hX k hx with h|h;exact hF h;exact hf h.1 h.2)⟩
structure FlatI (w:World) (F B:Nat) (off:Bool) (acc:List Fact) (v:Value):Prop where
 b:Blk w F 96 #[v,.bool off]
 l:ListAt w B factT 2 acc.length (rowsQ factQ acc) v
 lt:F<B
 le:B≤w.heap.size
theorem own_fact {w:World} {B n:Nat} {q:Q} {v:Value} (h:ListAt w B factT 2 n q v):∀ k,v.ownBlock=some k→IsFact w k:=by
 rcases h with ⟨rfl,_⟩|⟨g,cap,cur,xs,rfl,b,c,d,_⟩
 ·intro k hk;simp[Value.ownBlock] at hk
 ·intro k hk
  simp[Value.ownBlock] at hk
  subst hk
  exact⟨cur,d⟩
theorem notFact {w:World} {g:Nat} {cs:Array Value} {T:Nat} (h:Blk w g T cs) (hT:T≠factT):¬ IsFact w g:=by
 rintro⟨cur,e⟩
 unfold Blk at h
 rw[h] at e
 simp only[Option.some.injEq,Obj.cells.injEq] at e
 exact hT e.2.1
theorem FrF.keep {F:Nat} {w w':World} (h:FrF F w w') {g T:Nat} {cs:Array Value} (hb:Blk w g T cs) (hT:T≠factT) (hg:g≠F):Blk w' g T cs:=(h.block g hb.lt hg (fun _=>notFact hb hT)).trans hb
theorem FrF.grown {F:Nat} {w w':World} {B n:Nat} {q:Q} {v:Value} (hB:F<B) (hl:ListAt w B factT 2 n q v) (hg:w.grownBy w' v.ownBlock):FrF F w w' :=
 ⟨hg.os,hg.tape,hg.output,hg.size,fun k hk _ hf=>hg.block k hk (fun e=>hf (Nat.lt_of_lt_of_le hB (hl.own k e.symm).1) (own_fact hl k e.symm))⟩
set_option maxRecDepth 100000 in
set_option maxHeartbeats 1600000 in
theorem flat_number (F B g cap:Nat) (off:Bool) (acc:List Fact) (v:Value) (l:List Int) (w:World) (h:FlatI w F B off acc v) (hg:Blk w g 3 ((l.map fun n=>Value.int .i64 n).toArray)) (hgF:g≠F) (hlen:acc.length+l.length≤1000000) (hcap:l.length≤cap) :
  Calls Tryz.prog 32 #[.pointer (some ⟨F,0,none⟩),.slice (some ⟨g,0,none⟩) l.length cap] w fun e w'=>(∃ v',FlatI w' F B off (acc ++ l.map (fun n=>([],n))) v')∧FrF F w w'∧e=.returned (.tuple #[]):=by
 have H:=hid h
 have HG:=hid hg
 clear h hg
 go_enter Tryz.func32,Tryz.ntmps32
 go_wp2_with fail
 go_loopw [4] (fun vi wr=>∃ (i:Nat) (v:Value),vi=.int .i64 i∧i≤l.length∧FlatI wr F B off (acc ++ (l.take i).map (fun n=>([],n))) v∧FrF F w wr∧Blk wr g 3 ((l.map fun n=>Value.int .i64 n).toArray)) (fun vi _=>l.length - (RowKit.intOf vi).toNat)
 case atStart=>exact⟨0,v,rfl,by omega,by simpa using H.out,FrF.refl _ _,HG.out⟩
 case round =>
  obtain⟨i,u,rfl,hi,hI,hF,hB⟩:=hrel
  obtain⟨p,c,rfl⟩:=hI.l.shape
  have hal:(acc ++ (l.take i).map (fun n=>(([],n):Fact))).length=acc.length+i:=by simp;omega
  obtain⟨ac,hac⟩:∃ ac,ac=acc ++ (l.take i).map (fun n=>(([],n):Fact)):=⟨_,rfl⟩
  rw[← hac] at hI hal
  have hal2:ac.length+(l.length - i)≤1000000:=by omega
  clear hal
  have HAC:=hid hac
  clear hac
  have d0:=(hI.b.cell 0:wr.cell? ⟨F,0,none⟩=some (.slice p ac.length c))
  have hFl:=hI.b.lt
  by_cases hlt:i<l.length
  ·obtain⟨x,hx⟩:∃ x,l[i]?=some x:=⟨l[i],List.getElem?_eq_getElem hlt⟩
   have hxc:wr.cell? ⟨g,i,none⟩=some (.int .i64 x):=by rw[hB.cell i];simp[hx]
   have hdI:(i:Int)<(l.length:Int):=by omega
   have hd:decide ((i:Int)<(l.length:Int))=true:=by simp;omega
   have hd':decide (i<l.length)=true:=by simp;omega
   have hgl:=hB.lt
   obtain⟨i0,hinf,iz0,iz1,iz2⟩:=info_parts info_fact
   have HINF:=hid hinf
   have HI:=hid hI
   have HF:=hid hF
   have HB:=hid hB
   have HX:=hid hx
   obtain⟨g1,g2,g3,g4⟩:=append_ready (R:=F) (news:=[.string ⟨#[]⟩,.int .i64 x]) (w2:=wr) (w3:=wr.drew) (qb:=factQ ([],x)) hI.l (Nat.le_refl _) (Fr.refl [F] wr).drew hI.lt hI.le (by rw[factQ,rep_str];exact⟨_,rfl,by rw[rep_int];exact⟨_,rfl,by rw[rep_nil]⟩⟩) factT
   have G1:=hid g1
   have G2:=hid g2
   have G3:=hid g3
   have hle:=hI.le
   clear hI hF hB hx hinf g1 g2 g3
   go_wp2_with fail
   go_region_law (refine step_append_list _ (by rfl) _ _ 63 (by rfl) B factT i0 _ 2 24 Tryz.underlying63 HINF.out iz0 iz1 iz2 rfl (by decide) (.slice p ac.length c) ac.length 1 (rowsQ factQ ac) (factQ ([],x)) (by rfl) G1.out ⟨wr.heap.size,0,none⟩ 1 [.string ⟨#[]⟩,.int .i64 x] (by rfl) (by decide) rfl G2.out G3.out (by omega) (by decide) g4 ?_;intro p' c' w4 hL4 hg4;have hD4:=hid ((((HI.out.b.keep (Fr.refl [] wr).drew (by simp)).alloc (.cells #[.string ⟨#[]⟩,.int .i64 x] factT)).grown hg4 (fun k e=>by have:=(HI.out.l.own k e).1;have:=HI.out.lt;omega)));have hk4:w4.cell? ⟨F,0,none⟩=some (.slice p ac.length c):=hD4.out.cell 0;have hf4:w4.frozen? ⟨F,0,none⟩=false:=hD4.out.frozen 0;have HL4:=hid hL4;have HG4:=hid hg4;clear hL4 hg4)
   all_goals
    have HF1:Hid (FrF F wr (w4.setCell ⟨F,0,none⟩ (.slice p' (ac.length+1) c'))):=hid (((FrF.of ((Fr.refl [] wr).drew.alloc (.cells #[.string ⟨#[]⟩,.int .i64 x] factT)) (by simp)).trans (FrF.grown HI.out.lt G1.out HG4.out)).trans (FrF.of ((Fr.refl [F] _).setCell (.inl (by simp)) _) (by simp)))
    have HI1:Hid (FlatI (w4.setCell ⟨F,0,none⟩ (.slice p' (ac.length+1) c')) F B off (ac ++ [([],x)]) (.slice p' (ac.length+1) c')):=hid ⟨hD4.out.set 0 _,by rw[rowsQ_snoc,List.length_append,List.length_singleton];exact HL4.out.keep (X:=[F]) ((Fr.refl [F] _).setCell (.inl (by simp)) _) (by simpa using HI.out.lt),HI.out.lt,Nat.le_trans HI.out.le HF1.out.size⟩
    clear hk4 hf4 g4
    go_wp2_with fail
    go_roundw
    case rel=>exact⟨i+1,.slice p' (ac.length+1) c',by go_num,by omega,by rw[show acc ++ (l.take (i+1)).map (fun n=>(([],n):Fact))=ac ++ [([],x)] by rw[HAC.out,List.take_add_one,HX.out];simp];exact HI1.out,HF.out.trans HF1.out,HF1.out.keep HB.out (by decide) hgF⟩
    case measure=>simp[RowKit.intOf];omega
  ·obtain rfl:i=l.length:=by omega
   have hd:decide ((l.length:Int)<(l.length:Int))=false:=by simp
   have HI:=hid hI
   have HF:=hid hF
   clear hI hF hB
   go_wp2_with fail
   first|go_end0|refine bodyPost_ret (results_none rfl _ _ _) rfl ?_
   refine⟨⟨.slice p ac.length c,?_⟩,HF.out,rfl⟩
   have e:=HAC.out
   rw[List.take_length] at e
   rw[← e];exact HI.out
theorem FlatI.alloc {w:World} {F B:Nat} {off:Bool} {acc:List Fact} {v:Value} (h:FlatI w F B off acc v) (o:Obj):FlatI (w.alloc o) F B off acc v :=
 ⟨h.b.alloc o,h.l.keep (X:=[]) ((Fr.refl _ _).alloc _) (by simp),h.lt,by simp;have:=h.le;omega⟩
set_option maxRecDepth 100000 in
theorem flat_at (F B:Nat) (off:Bool) (acc:List Fact) (v:Value) (n:Nat) (w:World) (h:FlatI w F B off acc v) (hlen:acc.length+1≤1000000) :
  Calls Tryz.prog 34 #[.pointer (some ⟨F,0,none⟩),.int .i64 n] w fun e w'=>(∃ v',FlatI w' F B off (acc ++ oF off n) v')∧FrF F w w'∧e=.returned (.tuple #[]):=by
 have c1:=(h.b.cell 1:w.cell? ⟨F,1,none⟩=some (.bool off))
 have hlt:=h.b.lt
 have H:=hid h
 have hBF:=h.lt
 have hle:=h.le
 clear h
 cases off with
 | false =>
  go_enter Tryz.func34,Tryz.ntmps34
  go_wp2_with fail
  first|go_end0|refine bodyPost_ret (results_none rfl _ _ _) rfl ?_
  refine⟨⟨v,?_⟩,FrF.refl _ _,rfl⟩
  rw[oF_no,List.append_nil];exact H.out
 | true =>
  go_enter Tryz.func34,Tryz.ntmps34
  go_wp2_with fail
  refine(flat_number F B w.heap.size 1 true acc v [(n:Int)] _ (by exact H.out.alloc _) (by exact Blk.new _ _ _) (by omega) (by simpa using hlen) (by simp)).mono ?_
  rintro e w' ⟨⟨v',hI⟩,hF,rfl⟩
  have HI:=hid hI
  have HF:=hid ((FrF.of (F:=F) ((Fr.refl [] w).alloc (.cells #[.int .i64 n] 3)) (by simp)).trans hF)
  clear hI hF
  go_wp2_with fail
  first|go_end0|refine bodyPost_ret (results_none rfl _ _ _) rfl ?_
  exact⟨⟨v',HI.out⟩,HF.out,rfl⟩
def StrV (w:World) (F:Nat) (v:Value) (l:List Txt):Prop :=
 (l=[]∧∃ p c,v=.slice p 0 c)∨∃ g cap cur,v=.slice (some ⟨g,0,none⟩) l.length cap∧l.length≤cap∧g≠F∧Blk w g 9 cur∧∀ (i:Nat) (x:Txt),l[i]?=some x→cur[i]?=some (.string ⟨x.toArray⟩)
theorem StrV.shape {w:World} {F:Nat} {v:Value} {l:List Txt} (h:StrV w F v l):∃ p c,v=.slice p l.length c:=by
 rcases h with ⟨rfl,p,c,rfl⟩|⟨g,cap,cur,rfl,_⟩
 ·exact⟨p,c,rfl⟩
 ·exact⟨_,_,rfl⟩
theorem StrV.keep {w w':World} {F:Nat} {v:Value} {l:List Txt} (h:StrV w F v l) (hf:FrF F w w'):StrV w' F v l:=by
 rcases h with h|⟨g,cap,cur,rfl,h1,h2,h3,h4⟩
 ·exact .inl h
 ·exact .inr ⟨g,cap,cur,rfl,h1,h2,hf.keep h3 (by decide) h2,h4⟩
theorem StrV.at {w:World} {F:Nat} {v:Value} {l:List Txt} (h:StrV w F v l) {i:Nat} {x:Txt} (hx:l[i]?=some x):∃ g cap,v=.slice (some ⟨g,0,none⟩) l.length cap∧g<w.heap.size∧l.length≤cap∧w.cell? ⟨g,i,none⟩=some (.string ⟨x.toArray⟩):=by
 rcases h with ⟨rfl,_⟩|⟨g,cap,cur,rfl,h1,h2,h3,h4⟩
 ·simp at hx
 ·exact⟨g,cap,rfl,h3.lt,h1,by rw[h3.cell];exact h4 i x hx⟩
set_option maxRecDepth 100000 in
set_option maxHeartbeats 1600000 in
theorem flat_text (F B:Nat) (off:Bool) (acc:List Fact) (v sv:Value) (l:List Txt) (w:World) (h:FlatI w F B off acc v) (hs:StrV w F sv l) (hlen:acc.length+1+l.length≤1000000) :
  Calls Tryz.prog 31 #[.pointer (some ⟨F,0,none⟩),sv] w fun e w'=>(∃ v',FlatI w' F B off (acc ++ tF l) v')∧FrF F w w'∧e=.returned (.tuple #[]):=by
 obtain⟨ps,cs,rfl⟩:=hs.shape
 have H:=hid h
 have HSV:=hid hs
 have hFw:=h.b.lt
 clear h hs
 go_enter Tryz.func31,Tryz.ntmps31
 go_wp2_with fail
 refine(flat_number F B w.heap.size 1 off acc v [(l.length:Int)] _ (by exact H.out.alloc _) (by exact Blk.new _ _ _) (by omega) (by simp;omega) (by simp)).mono ?_
 rintro e w1 ⟨⟨v1,hI1⟩,hF1,rfl⟩
 have HI1:=hid hI1
 have HF1:=hid ((FrF.of (F:=F) ((Fr.refl [] w).alloc (.cells #[.int .i64 l.length] 3)) (by simp)).trans hF1)
 have HSV1:=hid (HSV.out.keep HF1.out)
 clear hI1 hF1
 go_wp2_with fail
 go_loopw [4] (fun vi wr=>∃ (i:Nat) (v:Value),vi=.int .i64 i∧i≤l.length∧FlatI wr F B off ((acc ++ nF l.length) ++ (l.take i).map (fun t=>(t,0))) v∧FrF F w1 wr) (fun vi _=>l.length - (RowKit.intOf vi).toNat)
 case atStart=>exact⟨0,v1,rfl,by omega,by simpa [nF] using HI1.out,FrF.refl _ _⟩
 case round =>
  obtain⟨i,u,rfl,hi,hI,hF⟩:=hrel
  obtain⟨p,c,rfl⟩:=hI.l.shape
  have hal:((acc ++ nF l.length) ++ (l.take i).map (fun t=>((t,0):Fact))).length=acc.length+1+i:=by simp[nF];omega
  obtain⟨ac,hac⟩:∃ ac,ac=(acc ++ nF l.length) ++ (l.take i).map (fun t=>((t,0):Fact)):=⟨_,rfl⟩
  rw[← hac] at hI hal
  have hal2:ac.length+(l.length - i)≤1000000:=by omega
  clear hal
  have HAC:=hid hac
  clear hac
  have d0:=(hI.b.cell 0:wr.cell? ⟨F,0,none⟩=some (.slice p ac.length c))
  have hFl:=hI.b.lt
  by_cases hlt:i<l.length
  ·obtain⟨x,hx⟩:∃ x,l[i]?=some x:=⟨l[i],List.getElem?_eq_getElem hlt⟩
   obtain⟨g,cap,e,hgl,hcap,hxc⟩:=(HSV1.out.keep hF).at hx
   simp only[Value.slice.injEq] at e
   obtain⟨rfl,_,rfl⟩:=e
   obtain⟨z,hz⟩:∃ z:ByteArray,z=⟨x.toArray⟩:=⟨_,rfl⟩
   rw[← hz] at hxc
   have hdI:(i:Int)<(l.length:Int):=by omega
   have hd:decide ((i:Int)<(l.length:Int))=true:=by simp;omega
   have hd':decide (i<l.length)=true:=by simp;omega
   obtain⟨i0,hinf,iz0,iz1,iz2⟩:=info_parts info_fact
   have HINF:=hid hinf
   have HI:=hid hI
   have HF:=hid hF
   have HX:=hid hx
   obtain⟨g1,g2,g3,g4⟩:=append_ready (R:=F) (news:=[.string z,.int .i64 0]) (w2:=wr) (w3:=wr.drew) (qb:=factQ (x,0)) hI.l (Nat.le_refl _) (Fr.refl [F] wr).drew hI.lt hI.le (by rw[factQ,rep_str];exact⟨_,by rw[hz],by rw[rep_int];exact⟨_,rfl,by rw[rep_nil]⟩⟩) factT
   have G1:=hid g1
   have G2:=hid g2
   have G3:=hid g3
   have hle:=hI.le
   clear hI hF hx hinf g1 g2 g3 hz
   go_wp2_with fail
   go_region_law (refine step_append_list _ (by rfl) _ _ 63 (by rfl) B factT i0 _ 2 24 Tryz.underlying63 HINF.out iz0 iz1 iz2 rfl (by decide) (.slice p ac.length c) ac.length 1 (rowsQ factQ ac) (factQ (x,0)) (by rfl) G1.out ⟨wr.heap.size,0,none⟩ 1 [.string z,.int .i64 0] (by rfl) (by decide) rfl G2.out G3.out (by omega) (by decide) g4 ?_;intro p' c' w4 hL4 hg4;have hD4:=hid ((((HI.out.b.keep (Fr.refl [] wr).drew (by simp)).alloc (.cells #[.string z,.int .i64 0] factT)).grown hg4 (fun k e=>by have:=(HI.out.l.own k e).1;have:=HI.out.lt;omega)));have hk4:w4.cell? ⟨F,0,none⟩=some (.slice p ac.length c):=hD4.out.cell 0;have hf4:w4.frozen? ⟨F,0,none⟩=false:=hD4.out.frozen 0;have HL4:=hid hL4;have HG4:=hid hg4;clear hL4 hg4)
   all_goals
    have HF2:Hid (FrF F wr (w4.setCell ⟨F,0,none⟩ (.slice p' (ac.length+1) c'))):=hid (((FrF.of ((Fr.refl [] wr).drew.alloc (.cells #[.string z,.int .i64 0] factT)) (by simp)).trans (FrF.grown HI.out.lt G1.out HG4.out)).trans (FrF.of ((Fr.refl [F] _).setCell (.inl (by simp)) _) (by simp)))
    have HI2:Hid (FlatI (w4.setCell ⟨F,0,none⟩ (.slice p' (ac.length+1) c')) F B off (ac ++ [(x,0)]) (.slice p' (ac.length+1) c')):=hid ⟨hD4.out.set 0 _,by rw[rowsQ_snoc,List.length_append,List.length_singleton];exact HL4.out.keep (X:=[F]) ((Fr.refl [F] _).setCell (.inl (by simp)) _) (by simpa using HI.out.lt),HI.out.lt,Nat.le_trans HI.out.le HF2.out.size⟩
    clear hk4 hf4 g4
    go_wp2_with fail
    go_roundw
    case rel=>exact⟨i+1,.slice p' (ac.length+1) c',by go_num,by omega,by rw[show (acc ++ nF l.length) ++ (l.take (i+1)).map (fun t=>((t,0):Fact))=ac ++ [(x,0)] by rw[HAC.out,List.take_add_one,HX.out];simp];exact HI2.out,HF.out.trans HF2.out⟩
    case measure=>simp[RowKit.intOf];omega
  ·obtain rfl:i=l.length:=by omega
   have hd:decide ((l.length:Int)<(l.length:Int))=false:=by simp
   have HI:=hid hI
   have HF:=hid (HF1.out.trans hF)
   clear hI hF
   go_wp2_with fail
   first|go_end0|refine bodyPost_ret (results_none rfl _ _ _) rfl ?_
   refine⟨⟨.slice p ac.length c,?_⟩,HF.out,rfl⟩
   have e:=HAC.out
   rw[List.take_length,List.append_assoc] at e
   unfold tF
   rw[← e];exact HI.out
end Go.Proofs.YtghohohagbbajaaGreatDoor
