/- part of the proof -/
import Derived.Test.YtghohohagbbajaaGreatDoorYO
import Derived.Test.YtghohohagbbajaaGreatDoorYP
import Derived.Test.YtghohohagbbajaaGreatDoorYK
import Derived.Deep.RegionLaw
set_option linter.unusedVariables false
set_option linter.unusedSimpArgs false
set_option linter.unusedSectionVars false
namespace Go.Proofs.YtghohohagbbajaaGreatDoor
open Go.RowKit Go.Lib
open Lx (Tk)
open Px (Txt TyE VarD DataD TraitD BoundD ImplD ArgD ExprD StmtD ArmD FuncD ModD)
theorem Blk.grown {w w':World} {b T:Nat} {cs:Array Value} {row:Option Nat} (h:Blk w b T cs) (hg:w.grownBy w' row) (hr:∀ k,row=some k→b<k):Blk w' b T cs :=
 (hg.block b h.lt (fun e=>by have:=hr b e.symm;omega)).trans h
theorem Calls.both {c:Ctx} {α:Type} {f:Nat} {args:Array Value} {w:World} {okv:Nat→α→World→Value→Prop} {r:Px.Res α} {R:Ending→World→Prop} (h:Calls Tryz.prog f args w (RP c w okv r))
  (hb:∀ ts w',r=.bad ts→Fr [c.R] w w'→Inv c ts w'→R (.panicked [failE c ts]) w') (hk:∀ a ts v w',Hid (r=.ok a ts)→Fr [c.R] w w'→Inv c ts w'→okv w.heap.size a w' v→R (.returned v) w'):Calls Tryz.prog f args w R :=
 h.mono fun e w' hp=>by
  rcases hp.cases with ⟨a,ts,v,h1,h2,h3,rfl,h4⟩|⟨ts,h1,h2,h3,rfl⟩
  ·exact hk a ts v w' h1 h2 h3 h4
  ·exact hb ts w' h1.out h2 h3
theorem operands_succ {i:Nat} {ts ts' ts3:List Tk} {acc:List Txt} {x:Txt} (h:Px.operands i ts=.ok acc ts') (hn:Px.name ts'=.ok x ts3):Px.operands (i+1) ts=.ok (acc ++ [x]) ts3:=by
 simp only[Px.operands,bind,Px.Rd.bind,h,hn];rfl
theorem operands_stuck {i:Nat} {ts ts' ts3:List Tk} {acc:List Txt} (h:Px.operands i ts=.ok acc ts') (hn:Px.name ts'=.bad ts3):∀ j,Px.operands (i+1+j) ts=.bad ts3
 | 0=>by simp only[Nat.add_zero,Px.operands,bind,Px.Rd.bind,h,hn]
 | j+1=>by rw[show i+1+(j+1)=(i+1+j)+1 from by omega];simp only[Px.operands,bind,Px.Rd.bind,operands_stuck h hn j]
set_option maxRecDepth 100000 in
set_option maxHeartbeats 1600000 in
theorem operation_any (c:Ctx) (ts:List Tk) (w:World) (h:Inv c ts w) (kind k:Nat) (hk:k≤2) :
  Calls Tryz.prog 131 #[.pointer (some ⟨c.R,0,none⟩),.int .i64 kind,.int .i64 k] w (RP c w (okAgg exprQ) (Px.operation kind k ts)):=by
 obtain⟨i0,hi,hz0,hz1,hz2⟩:=info_parts info_str
 have HINF:=hid hi
 have H:=hid h
 have HR0:=H.out.lt.1
 clear h hi
 go_enter Tryz.func131,Tryz.ntmps131
 go_wp2_with fail
 go_loopw [11] (fun vi wr=>∃ (i:Nat) (acc:List Txt) (ts':List Tk) (v:Value),vi=.int .i64 i∧i≤k∧acc.length=i∧Px.operands i ts=.ok acc ts'∧Inv c ts' wr∧Fr [c.R] w wr ∧
   Blk wr w.heap.size 49 #[.int .i64 0,.string ⟨#[]⟩,.string ⟨#[]⟩,.string ⟨#[]⟩,.slice none 0 0,.int .i64 0,.slice none 0 0,.int .i64 0] ∧
   Blk wr (w.heap.size+1) 49 #[.int .i64 kind,.string ⟨#[]⟩,.string ⟨#[]⟩,.string ⟨#[]⟩,v,.int .i64 0,.slice none 0 0,.int .i64 0] ∧
   ListAt wr (w.heap.size+2) 9 1 i (rowsQ strQ acc) v∧w.heap.size+2≤wr.heap.size) (fun vi _=>k - (RowKit.intOf vi).toNat)
 case atStart =>
  exact⟨0,[],ts,.slice none 0 0,rfl,by omega,rfl,rfl,(H.out.alloc _).alloc _,((Fr.refl _ _).alloc _).alloc _,(Blk.new w _ _).alloc _,Blk.new_at (by simp),.inl ⟨rfl,rfl,rfl⟩,by simp⟩
 case round =>
  obtain⟨i,acc,ts',v,rfl,hik,hl,hsp,hI,hF,hB,hD,hL,hz⟩:=hrel
  obtain⟨p,cc,rfl⟩:=hL.shape
  have HL:=hid hl
  have HSP:=hid hsp
  have HI:=hid hI
  have HF:=hid hF
  have HB:=hid hB
  have HD:=hid hD
  have HLS:=hid hL
  by_cases hlt:i<k
  ·have d4:wr.cell? ⟨w.heap.size+1,4,none⟩=some (.slice p i cc):=hD.cell 4
   have hd:decide ((i:Int)<(k:Int))=true:=by simp;omega
   have hd':decide (i<k)=true:=by simp;omega
   clear hl hsp hI hF hB hD hL
   have HBAD:Hid (∀ ts3 w3,Px.name ts'=.bad ts3→Fr [c.R] wr.drew w3→Inv c ts3 w3→RP c w (okAgg exprQ) (Px.operation kind k ts) (.panicked [failE c ts3]) w3):=by
    refine hid (fun ts3 w3 hnm hf3 hi3=>RP.bad ?_ (HF.out.drew.trans hf3) hi3)
    have:=operands_stuck HSP.out hnm (k - (i+1))
    rw[show i+1+(k - (i+1))=k by omega] at this
    simp only[Px.operation,bind,Px.Rd.bind,this]
   go_wp2_with fail
   go_region_law (first|(refine step_append_list _ (by rfl) _ _ 23 (by rfl) (w.heap.size+2) 9 i0 _ 1 16 Tryz.underlying23 HINF.out hz0 hz1 hz2 rfl (by decide) (.slice p i cc) i 1 (rowsQ strQ acc) (strQ x) (by rfl) G1.out ⟨w3.heap.size,0,none⟩ 1 [.string ⟨x.toArray⟩] (by rfl) (by decide) rfl G2.out G3.out (by omega) (by decide) g4 ?_;intro p' c' w4 hL4 hg4;have hD4:=hid (((HD.out.keep ((Fr.refl [c.R] wr).drew.trans hf3) (by simp;omega)).alloc (.cells #[.string ⟨x.toArray⟩] 9)).grown hg4 (fun k e=>by have:=(HLS.out.own k e).1;omega));have hk4:w4.cell? ⟨w.heap.size+1,4,none⟩=some (.slice p i cc):=hD4.out.cell 4;have hf4:w4.frozen? ⟨w.heap.size+1,4,none⟩=false:=hD4.out.frozen 4)|(go_simp;go_at_call 54;refine Calls.both (name_any c ts' _ HI.out.drew) (fun ts3 w3 h1 h2 h3=>And.intro rfl (HBAD.out ts3 w3 h1 h2 h3)) ?_;intro x ts3 v3 w3 hq3 hf3 hi3 hv3;obtain rfl:=hv3;have hk3:w3.cell? ⟨w.heap.size+1,4,none⟩=some (.slice p i cc):=(hf3.cell HD.out.lt (by simp;omega) 4).trans d4;have h9:wr.heap.size≤w3.heap.size:=hf3.size;have hz3:w.heap.size+1<w3.heap.size:=(by omega);have hr3:Rep w3 (fun k=>wr.heap.size≤k) (strQ x) [.string ⟨x.toArray⟩]:=rep_str.2 ⟨_,rfl,rep_nil.2 rfl⟩;obtain⟨g1,g2,g3,g4⟩:=append_ready (news:=[.string ⟨x.toArray⟩]) HLS.out (Nat.le_refl _) ((Fr.refl [c.R] wr).drew.trans hf3) (by omega) hz hr3 9;have G1:=hid g1;have G2:=hid g2;have G3:=hid g3;clear g1 g2 g3 hr3))
   all_goals
    have HS5:=hid (operands_succ HSP.out hq3.out)
    have hB4:=(((HB.out.keep ((Fr.refl [c.R] wr).drew.trans hf3) (by simp;omega)).alloc (.cells #[.string ⟨x.toArray⟩] 9)).grown hg4 (fun k e=>by have:=(HLS.out.own k e).1;omega))
    have hI4:=(hi3.alloc (.cells #[.string ⟨x.toArray⟩] 9)).grown H.out hg4 (fun k e=>by have:=(HLS.out.own k e).1;omega)
    have hF4:=((HF.out.drew.trans hf3).alloc (.cells #[.string ⟨x.toArray⟩] 9)).grown hg4 (fun k e=>by have:=(HLS.out.own k e).1;omega)
    have hz4:w.heap.size+2≤w4.heap.size:=by have h1:=hg4.size;simp at h1;omega
    have HLI:=hid HL.out
    have HB5:=hid (hB4.keep (X:=[w.heap.size+1]) ((Fr.refl _ w4).setCell (p:=⟨w.heap.size+1,4,none⟩) (.inl (by simp)) (.slice p' (i+1) c')) (by simp))
    have HI5:=hid (hI4.fr (X:=[w.heap.size+1]) H.out ((Fr.refl _ w4).setCell (p:=⟨w.heap.size+1,4,none⟩) (.inl (by simp)) (.slice p' (i+1) c')) (by simp))
    have HF5:=hid (hF4.setCell (p:=⟨w.heap.size+1,4,none⟩) (.inr (by simp)) (.slice p' (i+1) c'))
    have HD5:=hid (hD4.out.set 4 (.slice p' (i+1) c'))
    have HL5:=hid (hL4.keep (X:=[w.heap.size+1]) ((Fr.refl _ w4).setCell (p:=⟨w.heap.size+1,4,none⟩) (.inl (by simp)) (.slice p' (i+1) c')) (by simp))
    clear hB4 hI4 hF4 hL4 hg4 hf3 hi3 hk3 hk4 hf4 hq3
    go_wp2_with fail
    go_roundw
    case rel=>exact⟨i+1,acc ++ [x],_,_,by go_num,by omega,by simp[HLI.out],HS5.out,HI5.out,HF5.out,HB5.out,HD5.out,by rw[rowsQ_snoc];exact HL5.out,by simpa using hz4⟩
    case measure=>simp[RowKit.intOf];omega
  ·have hik':i=k:=by omega
   subst hik'
   have hd:decide ((i:Int)<(i:Int))=false:=by simp
   clear hl hsp hI hF hB hD hL
   have HV9:Hid (okRow 9 1 strQ (w.heap.size+2) acc wr (.slice p i cc)):=hid (by unfold okRow;rw[HL.out];exact HLS.out.row)
   have hlB:w.heap.size<wr.heap.size:=by omega
   have hlD:=HD.out.lt
   obtain⟨d0,d1,d2,d3,d4,d5,d6,d7⟩:=HD.out.c8
   obtain⟨b0,b1,b2,b3,b4,b5,b6,b7,g0,g1,g2,g3,g4,g5,g6,g7⟩:=HB.out.cf8
   go_wp2_with fail
   refine bodyPost_ret (v:=.agg #[.int .i64 kind,.string ⟨#[]⟩,.string ⟨#[]⟩,.string ⟨#[]⟩,.slice p i cc,.int .i64 0,.slice none 0 0,.int .i64 0]) (by simp[results,Tryz.results131,go_sem,hlB,hlD,d0,d1,d2,d3,d4,d5,d6,d7,b0,b1,b2,b3,b4,b5,b6,b7,g0,g1,g2,g3,g4,g5,g6,g7]) rfl ?_
   clear hlB hlD d0 d1 d2 d3 d4 d5 d6 d7 b0 b1 b2 b3 b4 b5 b6 b7 g0 g1 g2 g3 g4 g5 g6 g7
   exact RP.ok (by simp only[Px.operation,bind,Px.Rd.bind,offset_res,if_true,if_false,Bool.false_eq_true,HSP.out] <;> rfl) (HF.out.jf [w.heap.size+1,w.heap.size]) (HI.out.f [w.heap.size+1,w.heap.size] H.out) ⟨_,rfl,rep_int.2 ⟨_,rfl,rep_str.2 ⟨_,rfl,rep_str.2 ⟨_,rfl,rep_str.2 ⟨_,rfl,rep_sl.2 ⟨_,_,rfl,(row_own (b:=w.heap.size) HV9.out (by first|omega|(simp;done)|(simp;omega)) (X:=[w.heap.size+1,w.heap.size]) frk (by simp)),rep_int.2 ⟨_,rfl,rep_sl.2 ⟨_,_,rfl,RowV.nil _ _ _ _,rep_int.2 ⟨_,rfl,rep_nil.2 rfl⟩⟩⟩⟩⟩⟩⟩⟩⟩
theorem operation_at (c:Ctx) (ts:List Tk) (w:World) (h:Inv c ts w) (kv nv:Int) (kind k:Nat) (h1:kv=kind) (h2:nv=k) (hk:k≤2) :
  Calls Tryz.prog 131 #[.pointer (some ⟨c.R,0,none⟩),.int .i64 kv,.int .i64 nv] w (RP c w (okAgg exprQ) (Px.operation kind k ts)):=by
 subst h1;subst h2;exact operation_any c ts w h kind k hk
theorem strs_row {w:World} {b g:Nat} {l:List Txt} (hB:Blk w g 9 (l.map strV).toArray) (hb:b≤g) (hl:l≠[]) (hm:l.length≤1000):okRow 9 1 strQ b l w (.slice (some ⟨g,0,none⟩) l.length l.length):=by
 refine .inr ⟨g,l.length,(l.map strV).toArray,l.map strV,rfl,by simp[hl],hb,hB,Nat.le_refl _,Nat.le_trans hm (by unfold maxLen;decide),by simp,by rw[Nat.mul_one];exact List.take_of_length_le (by simp),by simp,?_⟩
 clear hB hl hm
 induction l with
 | nil=>exact rep_nil.2 rfl
 | cons a l ih=>exact rep_str.2 ⟨_,rfl,ih⟩
set_option maxRecDepth 100000 in
set_option maxHeartbeats 1600000 in
theorem reference_any (c:Ctx) (plain behind inside:Nat) (ts:List Tk) (w:World) (h:Inv c ts w) :
  Calls Tryz.prog 132 #[.pointer (some ⟨c.R,0,none⟩),.int .i64 plain,.int .i64 behind,.int .i64 inside] w (RP c w (okAgg exprQ) (Px.reference plain behind inside ts)):=by
 have H:=hid h
 have HR0:=H.out.lt.1
 clear h
 go_enter Tryz.func132,Tryz.ntmps132
 go_wp2_with fail
 refine(accept_any c ts [[42]] _ _ 1 (by exact H.out.f [] H.out) rfl (by exact Blk.new_at (by simp)) rfl (by decide)).mono ?_
 rintro e w1 hp
 rcases hp.accept with ⟨hq1,_,hf,hi,rfl⟩|⟨hq1,hf,hi,rfl⟩
 ·clear hp
  have hl1:=accept_pos hq1.out rfl
  have hT:Fr [c.R] w w1:=Fr.trans frk hf.wide
  have HB1:Hid (Blk w1 (w.heap.size) 49 #[.int .i64 0,.string ⟨#[]⟩,.string ⟨#[]⟩,.string ⟨#[]⟩,.slice none 0 0,.int .i64 0,.slice none 0 0,.int .i64 0]):=hid ((Blk.alloc (Blk.new w _ _) _).k hf)
  have HI1:=hid hi
  have HF1:=hid ((Fr.refl [c.R] w).j hT)
  have hz1:=hf.size;try simp at hz1
  clear hT hf hi
  go_wp2_with fail
  refine(operation_at c ts.tail _ (by exact HI1.out.f [] H.out) _ _ behind 1 (by rfl) (by rfl) (by decide)).mono ?_
  rintro e w2 hp
  rcases hp.cases with ⟨x2,ts2,v2,hq2,hf,hi,rfl,hv⟩|⟨ts2,hq2,hf,hi,rfl⟩
  ·clear hp
   obtain⟨cs,rfl,hrep⟩:=hv
   obtain⟨i2_0,s2_1,s2_2,s2_3,p2_4,n2_4,c2_4,i2_5,p2_6,n2_6,c2_6,i2_7,rfl⟩:=hrep.c_exprQ
   have hV2:Rep w2 (fun k=>w.heap.size+1≤k) _ _:=hrep.mono (fun k hk _=>⟨by (try simp at hk);omega,rfl⟩)
   obtain⟨hT,HB2,HI2,HF2,hz2⟩:=Inv.st [] HB1.out HF1.out hf hi
   try simp at hz2
   have HV2:=hid hV2
   have hl2:ts2.length≤ts.tail.length:=(shr_operation _ _).ok hq2.out
   clear hT hf hi hV2 hrep
   have hlB:w.heap.size<w2.heap.size:=by omega
   obtain⟨b0,b1,b2,b3,b4,b5,b6,b7,g0,g1,g2,g3,g4,g5,g6,g7⟩:=HB2.out.cf8
   go_wp2_with fail
   refine bodyPost_ret (v:=.agg #[.int .i64 i2_0,.string s2_1,.string s2_2,.string s2_3,.slice p2_4 n2_4 c2_4,.int .i64 i2_5,.slice p2_6 n2_6 c2_6,.int .i64 i2_7]) (by simp[results,Tryz.results132,go_sem,hlB,b0,b1,b2,b3,b4,b5,b6,b7,g0,g1,g2,g3,g4,g5,g6,g7]) rfl ?_
   clear hlB b0 b1 b2 b3 b4 b5 b6 b7 g0 g1 g2 g3 g4 g5 g6 g7
   exact RP.ok (by simp only[Px.reference,bind,Px.Rd.bind,offset_res,if_true,if_false,Bool.false_eq_true,hq1.out,hq2.out] <;> rfl) (HF2.out.jf [w.heap.size]) (HI2.out.f [w.heap.size] H.out) ⟨_,rfl,(rep_own (b:=w.heap.size) HV2.out (X:=[w.heap.size]) frk (by first|omega|(simp;done)|(simp;omega)) (by first|omega|(simp;done)|(simp;omega)))⟩
  ·go_wp2_with fail
   exact⟨rfl,RP.bad (by simp only[Px.reference,bind,Px.Rd.bind,offset_res,if_true,if_false,Bool.false_eq_true,hq1.out,hq2.out]) (HF1.out.jt [] hf) hi⟩
 ·clear hp
  have hT:Fr [c.R] w w1:=Fr.trans frk hf.wide
  have HB1:Hid (Blk w1 (w.heap.size) 49 #[.int .i64 0,.string ⟨#[]⟩,.string ⟨#[]⟩,.string ⟨#[]⟩,.slice none 0 0,.int .i64 0,.slice none 0 0,.int .i64 0]):=hid ((Blk.alloc (Blk.new w _ _) _).k hf)
  have HI1:=hid hi
  have HF1:=hid ((Fr.refl [c.R] w).j hT)
  have hz1:=hf.size;try simp at hz1
  clear hT hf hi
  go_wp2_with fail
  refine(accept_any c ts [[105,110]] _ _ 1 (by exact HI1.out.f [] H.out) rfl (by exact Blk.new_at (by simp)) rfl (by decide)).mono ?_
  rintro e w3 hp
  rcases hp.accept with ⟨hq3,_,hf,hi,rfl⟩|⟨hq3,hf,hi,rfl⟩
  ·clear hp
   have hl3:=accept_pos hq3.out rfl
   obtain⟨hT,HB3,HI3,HF3,hz3⟩:=Inv.st [] HB1.out HF1.out hf hi
   try simp at hz3
   clear hT hf hi
   go_wp2_with fail
   refine(operation_at c ts.tail _ (by exact HI3.out.f [] H.out) _ _ inside 1 (by rfl) (by rfl) (by decide)).mono ?_
   rintro e w4 hp
   rcases hp.cases with ⟨x4,ts4,v4,hq4,hf,hi,rfl,hv⟩|⟨ts4,hq4,hf,hi,rfl⟩
   ·clear hp
    obtain⟨cs,rfl,hrep⟩:=hv
    obtain⟨i4_0,s4_1,s4_2,s4_3,p4_4,n4_4,c4_4,i4_5,p4_6,n4_6,c4_6,i4_7,rfl⟩:=hrep.c_exprQ
    have hV4:Rep w4 (fun k=>w.heap.size+1≤k) _ _:=hrep.mono (fun k hk _=>⟨by (try simp at hk);omega,rfl⟩)
    obtain⟨hT,HB4,HI4,HF4,hz4⟩:=Inv.st [] HB3.out HF3.out hf hi
    try simp at hz4
    have HV4:=hid hV4
    have hl4:ts4.length≤ts.tail.length:=(shr_operation _ _).ok hq4.out
    clear hT hf hi hV4 hrep
    have hlB:w.heap.size<w4.heap.size:=by omega
    obtain⟨b0,b1,b2,b3,b4,b5,b6,b7,g0,g1,g2,g3,g4,g5,g6,g7⟩:=HB4.out.cf8
    go_wp2_with fail
    refine bodyPost_ret (v:=.agg #[.int .i64 i4_0,.string s4_1,.string s4_2,.string s4_3,.slice p4_4 n4_4 c4_4,.int .i64 i4_5,.slice p4_6 n4_6 c4_6,.int .i64 i4_7]) (by simp[results,Tryz.results132,go_sem,hlB,b0,b1,b2,b3,b4,b5,b6,b7,g0,g1,g2,g3,g4,g5,g6,g7]) rfl ?_
    clear hlB b0 b1 b2 b3 b4 b5 b6 b7 g0 g1 g2 g3 g4 g5 g6 g7
    exact RP.ok (by simp only[Px.reference,bind,Px.Rd.bind,offset_res,if_true,if_false,Bool.false_eq_true,hq1.out,hq3.out,hq4.out] <;> rfl) (HF4.out.jf [w.heap.size]) (HI4.out.f [w.heap.size] H.out) ⟨_,rfl,(rep_own (b:=w.heap.size) HV4.out (X:=[w.heap.size]) frk (by first|omega|(simp;done)|(simp;omega)) (by first|omega|(simp;done)|(simp;omega)))⟩
   ·go_wp2_with fail
    exact⟨rfl,RP.bad (by simp only[Px.reference,bind,Px.Rd.bind,offset_res,if_true,if_false,Bool.false_eq_true,hq1.out,hq3.out,hq4.out]) (HF3.out.jt [] hf) hi⟩
  ·clear hp
   obtain⟨hT,HB3,HI3,HF3,hz3⟩:=Inv.st [] HB1.out HF1.out hf hi
   try simp at hz3
   clear hT hf hi
   go_wp2_with fail
   refine(operation_at c ts _ (by exact HI3.out.f [] H.out) _ _ plain 1 (by rfl) (by rfl) (by decide)).mono ?_
   rintro e w5 hp
   rcases hp.cases with ⟨x5,ts5,v5,hq5,hf,hi,rfl,hv⟩|⟨ts5,hq5,hf,hi,rfl⟩
   ·clear hp
    obtain⟨cs,rfl,hrep⟩:=hv
    obtain⟨i5_0,s5_1,s5_2,s5_3,p5_4,n5_4,c5_4,i5_5,p5_6,n5_6,c5_6,i5_7,rfl⟩:=hrep.c_exprQ
    have hV5:Rep w5 (fun k=>w.heap.size+1≤k) _ _:=hrep.mono (fun k hk _=>⟨by (try simp at hk);omega,rfl⟩)
    obtain⟨hT,HB5,HI5,HF5,hz5⟩:=Inv.st [] HB3.out HF3.out hf hi
    try simp at hz5
    have HV5:=hid hV5
    have hl5:ts5.length≤ts.length:=(shr_operation _ _).ok hq5.out
    clear hT hf hi hV5 hrep
    have hlB:w.heap.size<w5.heap.size:=by omega
    obtain⟨b0,b1,b2,b3,b4,b5,b6,b7,g0,g1,g2,g3,g4,g5,g6,g7⟩:=HB5.out.cf8
    go_wp2_with fail
    refine bodyPost_ret (v:=.agg #[.int .i64 i5_0,.string s5_1,.string s5_2,.string s5_3,.slice p5_4 n5_4 c5_4,.int .i64 i5_5,.slice p5_6 n5_6 c5_6,.int .i64 i5_7]) (by simp[results,Tryz.results132,go_sem,hlB,b0,b1,b2,b3,b4,b5,b6,b7,g0,g1,g2,g3,g4,g5,g6,g7]) rfl ?_
    clear hlB b0 b1 b2 b3 b4 b5 b6 b7 g0 g1 g2 g3 g4 g5 g6 g7
    exact RP.ok (by simp only[Px.reference,bind,Px.Rd.bind,offset_res,if_true,if_false,Bool.false_eq_true,hq1.out,hq3.out,hq5.out] <;> rfl) (HF5.out.jf [w.heap.size]) (HI5.out.f [w.heap.size] H.out) ⟨_,rfl,(rep_own (b:=w.heap.size) HV5.out (X:=[w.heap.size]) frk (by first|omega|(simp;done)|(simp;omega)) (by first|omega|(simp;done)|(simp;omega)))⟩
   ·go_wp2_with fail
    exact⟨rfl,RP.bad (by simp only[Px.reference,bind,Px.Rd.bind,offset_res,if_true,if_false,Bool.false_eq_true,hq1.out,hq3.out,hq5.out]) (HF3.out.jt [] hf) hi⟩
set_option maxRecDepth 100000 in
set_option maxHeartbeats 1600000 in
theorem newValue_any (c:Ctx) (ts:List Tk) (w:World) (h:Inv c ts w) :
  Calls Tryz.prog 130 #[.pointer (some ⟨c.R,0,none⟩)] w (RP c w (okAgg exprQ) (Px.newValue ts)):=by
 have hmf:=make_func
 have H:=hid h
 have HR0:=H.out.lt.1
 clear h
 go_enter Tryz.func130,Tryz.ntmps130
 go_wp2_with fail
 refine(name_any c ts _ (by exact H.out.f [w.heap.size+1] H.out)).mono ?_
 rintro e w1 hp
 rcases hp.cases with ⟨x1,ts1,v1,hq1,hf,hi,rfl,hv⟩|⟨ts1,hq1,hf,hi,rfl⟩
 ·clear hp
  obtain rfl:=hv
  have hT:Fr [c.R,w.heap.size+1] w w1:=Fr.trans frk hf.wide
  have HD1:Hid (Blk w1 (w.heap.size+1) 49 #[.int .i64 4,.string ⟨#[]⟩,.string ⟨#[]⟩,.string ⟨#[]⟩,.slice none 0 0,.int .i64 0,.slice none 0 0,.int .i64 0]):=hid ((Blk.new_at (by simp)).k hf)
  have HB1:Hid (Blk w1 (w.heap.size) 49 #[.int .i64 0,.string ⟨#[]⟩,.string ⟨#[]⟩,.string ⟨#[]⟩,.slice none 0 0,.int .i64 0,.slice none 0 0,.int .i64 0]):=hid ((Blk.alloc (Blk.new w _ _) _).k hf)
  have HI1:=hid hi
  have HF1:=hid ((Fr.refl [c.R] w).j hT)
  have hz1:=hf.size;try simp at hz1
  have hl1:ts1.length<ts.length:=Strict.name _ _ _ hq1.out
  clear hT hf hi
  have hlD:=HD1.out.lt
  obtain⟨d2,f2⟩:=HD1.out.df 2 (v:=.string ⟨#[]⟩) rfl
  go_wp2_with fail
  clear hlD d2 f2
  refine(expect_any c ts1 [[46]] _ _ 1 (by exact HI1.out.f [w.heap.size+1] H.out) rfl (by exact Blk.new_at (by simp)) rfl (by decide)).mono ?_
  rintro e w2 hp
  rcases hp.cases with ⟨x2,ts2,v2,hq2,hf,hi,rfl,hv⟩|⟨ts2,hq2,hf,hi,rfl⟩
  ·clear hp
   obtain rfl:=hv
   obtain⟨hT,HB2,HI2,HF2,hz2⟩:=Inv.st [w.heap.size+1] HB1.out HF1.out hf hi
   have HD2:Hid (Blk w2 (w.heap.size+1) 49 #[.int .i64 4,.string ⟨#[]⟩,.string ⟨x1.toArray⟩,.string ⟨#[]⟩,.slice none 0 0,.int .i64 0,.slice none 0 0,.int .i64 0]):=hid ((Blk.alloc (HD1.out.set 2 (.string ⟨x1.toArray⟩)) _).k hf)
   try simp at hz2
   have hl2:ts2.length≤ts1.length:=(Shr.expect _).ok hq2.out
   clear hT hf hi
   have hlD:=HD2.out.lt
   go_wp2_with fail
   clear hlD
   refine(name_any c ts2 _ (by exact HI2.out.f [w.heap.size+1] H.out)).mono ?_
   rintro e w3 hp
   rcases hp.cases with ⟨x3,ts3,v3,hq3,hf,hi,rfl,hv⟩|⟨ts3,hq3,hf,hi,rfl⟩
   ·clear hp
    obtain rfl:=hv
    obtain⟨hT,HB3,HI3,HF3,hz3⟩:=Inv.st [w.heap.size+1] HB2.out HF2.out hf hi
    have HD3:=hid (HD2.out.k hf)
    try simp at hz3
    have hl3:ts3.length<ts2.length:=Strict.name _ _ _ hq3.out
    clear hT hf hi
    have hlD:=HD3.out.lt
    obtain⟨d3,f3⟩:=HD3.out.df 3 (v:=.string ⟨#[]⟩) rfl
    go_wp2_with fail
    clear hlD d3 f3
    refine(opt_str c _ (ts3.length+1) _ enters_name (reads_name c _) Shr.name [40] [41] (by decide) (by decide) ts3 _ (by exact HI3.out.f [w.heap.size+1] H.out) (by omega)).mono ?_
    rintro e w4 hp
    rcases hp.cases with ⟨x4,ts4,v4,hq4,hf,hi,rfl,hv⟩|⟨ts4,hq4,hf,hi,rfl⟩
    ·clear hp
     obtain⟨p4,n4,k4,rfl⟩:=row_shp hv
     have hV4:=row_own (b:=w.heap.size+2) hv (by first|omega|(simp;done)|(simp;omega)) (Fr.refl [] _) (by simp)
     obtain⟨hT,HB4,HI4,HF4,hz4⟩:=Inv.st [w.heap.size+1] HB3.out HF3.out hf hi
     have HD4:Hid (Blk w4 (w.heap.size+1) 49 #[.int .i64 4,.string ⟨#[]⟩,.string ⟨x1.toArray⟩,.string ⟨x3.toArray⟩,.slice none 0 0,.int .i64 0,.slice none 0 0,.int .i64 0]):=hid ((HD3.out.set 3 (.string ⟨x3.toArray⟩)).k hf)
     try simp at hz4
     have HV4:=hid hV4
     have hl4:ts4.length≤ts3.length:=(Shr.opt Shr.name _ _).ok hq4.out
     clear hT hf hi hV4 hv
     have hlB:w.heap.size<w4.heap.size:=by omega
     have hlD:=HD4.out.lt
     obtain⟨d0,d1,d2,d3,d4,d5,d6,d7⟩:=HD4.out.c8
     have f4:=HD4.out.frozen 4
     obtain⟨b0,b1,b2,b3,b4,b5,b6,b7,g0,g1,g2,g3,g4,g5,g6,g7⟩:=HB4.out.cf8
     go_wp2_with fail
     refine bodyPost_ret (v:=.agg #[.int .i64 4,.string ⟨#[]⟩,.string ⟨x1.toArray⟩,.string ⟨x3.toArray⟩,.slice p4 n4 k4,.int .i64 0,.slice none 0 0,.int .i64 0]) (by simp[results,Tryz.results130,go_sem,hlB,hlD,d0,d1,d2,d3,d4,d5,d6,d7,f4,b0,b1,b2,b3,b4,b5,b6,b7,g0,g1,g2,g3,g4,g5,g6,g7]) rfl ?_
     clear hlB hlD d0 d1 d2 d3 d4 d5 d6 d7 f4 b0 b1 b2 b3 b4 b5 b6 b7 g0 g1 g2 g3 g4 g5 g6 g7
     exact RP.ok (by simp only[Px.newValue,bind,Px.Rd.bind,offset_res,if_true,if_false,Bool.false_eq_true,hq1.out,hq2.out,hq3.out,hq4.out] <;> rfl) (HF4.out.jf [w.heap.size+1,w.heap.size]) (HI4.out.f [w.heap.size+1,w.heap.size] H.out) ⟨_,rfl,rep_int.2 ⟨_,rfl,rep_str.2 ⟨_,rfl,rep_str.2 ⟨_,rfl,rep_str.2 ⟨_,rfl,rep_sl.2 ⟨_,_,rfl,(row_own (b:=w.heap.size) HV4.out (by first|omega|(simp;done)|(simp;omega)) (X:=[w.heap.size+1,w.heap.size]) frk (by first|omega|(simp;done)|(simp;omega))),rep_int.2 ⟨_,rfl,rep_sl.2 ⟨_,_,rfl,RowV.nil _ _ _ _,rep_int.2 ⟨_,rfl,rep_nil.2 rfl⟩⟩⟩⟩⟩⟩⟩⟩⟩
    ·go_wp2_with fail
     exact⟨rfl,RP.bad (by simp only[Px.newValue,bind,Px.Rd.bind,offset_res,if_true,if_false,Bool.false_eq_true,hq1.out,hq2.out,hq3.out,hq4.out]) (HF3.out.jt [w.heap.size+1] hf) hi⟩
   ·go_wp2_with fail
    exact⟨rfl,RP.bad (by simp only[Px.newValue,bind,Px.Rd.bind,offset_res,if_true,if_false,Bool.false_eq_true,hq1.out,hq2.out,hq3.out]) (HF2.out.jt [w.heap.size+1] hf) hi⟩
  ·go_wp2_with fail
   exact⟨rfl,RP.bad (by simp only[Px.newValue,bind,Px.Rd.bind,offset_res,if_true,if_false,Bool.false_eq_true,hq1.out,hq2.out]) (HF1.out.jt [w.heap.size+1] hf) hi⟩
 ·go_wp2_with fail
  exact⟨rfl,RP.bad (by simp only[Px.newValue,bind,Px.Rd.bind,offset_res,if_true,if_false,Bool.false_eq_true,hq1.out]) ((Fr.refl [c.R] w).jt [w.heap.size+1] hf) hi⟩
set_option maxRecDepth 100000 in
set_option maxHeartbeats 1600000 in
theorem afterName_any (c:Ctx) (x:Txt) (ts:List Tk) (w:World) (h:Inv c ts w) :
  Calls Tryz.prog 133 #[.pointer (some ⟨c.R,0,none⟩),.string ⟨x.toArray⟩] w (RP c w (okAgg exprQ) (Px.afterName x ts)):=by
 have hmf:=make_func
 have H:=hid h
 have HR0:=H.out.lt.1
 clear h
 go_enter Tryz.func133,Tryz.ntmps133
 go_wp2_with fail
 refine(word_any c ts _ (by exact H.out.f [] H.out)).mono ?_
 rintro e w' ⟨rfl,rfl⟩
 go_wp2_with fail
 refine(accept_any c ts [[43],[45],[42],[60],[61,61]] _ _ 5 (by exact H.out.f [] H.out) rfl (by exact Blk.new_at (by simp)) rfl (by decide)).mono ?_
 rintro e w1 hp
 rcases hp.accept with ⟨hq1,_,hf,hi,rfl⟩|⟨hq1,hf,hi,rfl⟩
 ·clear hp
  have hl1:=accept_pos hq1.out rfl
  have hT:Fr [c.R] w w1:=Fr.trans frk hf.wide
  have HB1:Hid (Blk w1 (w.heap.size) 49 #[.int .i64 0,.string ⟨#[]⟩,.string ⟨#[]⟩,.string ⟨#[]⟩,.slice none 0 0,.int .i64 0,.slice none 0 0,.int .i64 0]):=hid ((Blk.alloc (Blk.new w _ _) _).k hf)
  have HI1:=hid hi
  have HF1:=hid ((Fr.refl [c.R] w).j hT)
  have hz1:=hf.size;try simp at hz1
  clear hT hf hi
  go_wp2_with fail
  refine(name_any c ts.tail _ (by exact HI1.out.f [] H.out)).mono ?_
  rintro e w2 hp
  rcases hp.cases with ⟨x2,ts2,v2,hq2,hf,hi,rfl,hv⟩|⟨ts2,hq2,hf,hi,rfl⟩
  ·clear hp
   obtain rfl:=hv
   obtain⟨hT,HB2,HI2,HF2,hz2⟩:=Inv.st [] HB1.out HF1.out hf hi
   try simp at hz2
   have hl2:ts2.length<ts.tail.length:=Strict.name _ _ _ hq2.out
   clear hT hf hi
   have hlB:w.heap.size<w2.heap.size:=by omega
   obtain⟨b0,b1,b2,b3,b4,b5,b6,b7,g0,g1,g2,g3,g4,g5,g6,g7⟩:=HB2.out.cf8
   go_wp2_with fail
   refine bodyPost_ret (v:=.agg #[.int .i64 3,.string ⟨(Px.word ts).toArray⟩,.string ⟨#[]⟩,.string ⟨#[]⟩,.slice (some ⟨w2.heap.size,0,none⟩) 2 2,.int .i64 0,.slice none 0 0,.int .i64 0]) (by simp[results,Tryz.results133,go_sem,hlB,b0,b1,b2,b3,b4,b5,b6,b7,g0,g1,g2,g3,g4,g5,g6,g7]) rfl ?_
   clear hlB b0 b1 b2 b3 b4 b5 b6 b7 g0 g1 g2 g3 g4 g5 g6 g7
   exact RP.ok (a:={ Px.expr0 with kind:=3,op:=Px.word ts,names:=[x,x2] }) (by simp only[Px.afterName,bind,Px.Rd.bind,offset_res,if_true,if_false,Bool.false_eq_true,Px.wordR,hq1.out,hq2.out] <;> rfl) (HF2.out.jf [w.heap.size]) (HI2.out.f [w.heap.size] H.out) ⟨_,rfl,rep_int.2 ⟨_,rfl,rep_str.2 ⟨_,rfl,rep_str.2 ⟨_,rfl,rep_str.2 ⟨_,rfl,rep_sl.2 ⟨_,_,rfl,(strs_row (l:=[x,x2]) (b:=w.heap.size) (g:=w2.heap.size) (show Blk _ _ _ #[.string ⟨x.toArray⟩,.string ⟨x2.toArray⟩] from (by repeat' (first|with_reducible refine Blk.new_at ?_|with_reducible refine Blk.alloc ?_ _|with_reducible refine Blk.other ?_ ?_ _|(simp;done)|(simp;omega)))) (by omega) (by simp) (by simp)),rep_int.2 ⟨_,rfl,rep_sl.2 ⟨_,_,rfl,RowV.nil _ _ _ _,rep_int.2 ⟨_,rfl,rep_nil.2 rfl⟩⟩⟩⟩⟩⟩⟩⟩⟩
  ·go_wp2_with fail
   exact⟨rfl,RP.bad (by simp only[Px.afterName,bind,Px.Rd.bind,offset_res,if_true,if_false,Bool.false_eq_true,Px.wordR,hq1.out,hq2.out]) (HF1.out.jt [] hf) hi⟩
 ·clear hp
  have hT:Fr [c.R] w w1:=Fr.trans frk hf.wide
  have HB1:Hid (Blk w1 (w.heap.size) 49 #[.int .i64 0,.string ⟨#[]⟩,.string ⟨#[]⟩,.string ⟨#[]⟩,.slice none 0 0,.int .i64 0,.slice none 0 0,.int .i64 0]):=hid ((Blk.alloc (Blk.new w _ _) _).k hf)
  have HI1:=hid hi
  have HF1:=hid ((Fr.refl [c.R] w).j hT)
  have hz1:=hf.size;try simp at hz1
  clear hT hf hi
  go_wp2_with fail
  refine(accept_any c ts [[46]] _ _ 1 (by exact HI1.out.f [] H.out) rfl (by exact Blk.new_at (by simp)) rfl (by decide)).mono ?_
  rintro e w3 hp
  rcases hp.accept with ⟨hq3,_,hf,hi,rfl⟩|⟨hq3,hf,hi,rfl⟩
  ·clear hp
   have hl3:=accept_pos hq3.out rfl
   obtain⟨hT,HB3,HI3,HF3,hz3⟩:=Inv.st [] HB1.out HF1.out hf hi
   try simp at hz3
   clear hT hf hi
   go_wp2_with fail
   refine(number_any c ts.tail _ (by exact HI3.out.f [] H.out)).mono ?_
   rintro e w4 hp
   rcases hp.cases with ⟨x4,ts4,v4,hq4,hf,hi,rfl,hv⟩|⟨ts4,hq4,hf,hi,rfl⟩
   ·clear hp
    obtain rfl:=hv
    have hT:Fr [c.R] w3 w4:=Fr.trans frk hf.wide
    have HB4:=hid (HB3.out.k hT)
    have hN:Blk w4 (w3.heap.size) 9 #[.string ⟨x.toArray⟩]:=Blk.keep (by repeat' (first|with_reducible refine Blk.new_at ?_|with_reducible refine Blk.alloc ?_ _|with_reducible refine Blk.other ?_ ?_ _|(simp;done)|(simp;omega))) hf (by simp;omega)
    have hNr:=strs_row (l:=[x]) (b:=w.heap.size+1) hN (by omega) (by simp) (by simp)
    have HS_4:=hid hNr
    clear hN hNr
    have HI4:=hid hi
    have HF4:=hid (HF3.out.j hT)
    have hz4:=hf.size;try simp at hz4
    have hl4:ts4.length≤ts.tail.length:=(Shr.number).ok hq4.out
    clear hT hf hi
    have hlB:w.heap.size<w4.heap.size:=by omega
    obtain⟨b0,b1,b2,b3,b4,b5,b6,b7,g0,g1,g2,g3,g4,g5,g6,g7⟩:=HB4.out.cf8
    go_wp2_with fail
    refine bodyPost_ret (v:=.agg #[.int .i64 13,.string ⟨#[]⟩,.string ⟨#[]⟩,.string ⟨#[]⟩,.slice (some ⟨w3.heap.size,0,none⟩) 1 1,.int .i64 x4,.slice none 0 0,.int .i64 0]) (by simp[results,Tryz.results133,go_sem,hlB,b0,b1,b2,b3,b4,b5,b6,b7,g0,g1,g2,g3,g4,g5,g6,g7]) rfl ?_
    clear hlB b0 b1 b2 b3 b4 b5 b6 b7 g0 g1 g2 g3 g4 g5 g6 g7
    exact RP.ok (a:={ Px.expr0 with kind:=13,names:=[x],num:=x4 }) (by simp only[Px.afterName,bind,Px.Rd.bind,offset_res,if_true,if_false,Bool.false_eq_true,Px.wordR,hq1.out,hq3.out,hq4.out] <;> rfl) (HF4.out.jf [w.heap.size]) (HI4.out.f [w.heap.size] H.out) ⟨_,rfl,rep_int.2 ⟨_,rfl,rep_str.2 ⟨_,rfl,rep_str.2 ⟨_,rfl,rep_str.2 ⟨_,rfl,rep_sl.2 ⟨_,_,rfl,(row_own (b:=w.heap.size) HS_4.out (by first|omega|(simp;done)|(simp;omega)) (X:=[w.heap.size]) frk (by first|omega|(simp;done)|(simp;omega))),rep_int.2 ⟨_,rfl,rep_sl.2 ⟨_,_,rfl,RowV.nil _ _ _ _,rep_int.2 ⟨_,rfl,rep_nil.2 rfl⟩⟩⟩⟩⟩⟩⟩⟩⟩
   ·go_wp2_with fail
    exact⟨rfl,RP.bad (by simp only[Px.afterName,bind,Px.Rd.bind,offset_res,if_true,if_false,Bool.false_eq_true,Px.wordR,hq1.out,hq3.out,hq4.out]) (HF3.out.jt [] hf) hi⟩
  ·clear hp
   obtain⟨hT,HB3,HI3,HF3,hz3⟩:=Inv.st [] HB1.out HF1.out hf hi
   try simp at hz3
   clear hT hf hi
   by_cases e1:Px.word ts=[40]
   ·have n1:(Px.word ts == [40])=true:=by simpa using e1
    have N1:=hid e1
    clear e1
    go_wp2_with fail
    refine(pos_str c _ (ts.length+1) _ enters_name (reads_name c _) Shr.name [40] [41] (by decide) (by decide) ts _ (by exact HI3.out.f [] H.out) (by omega)).mono ?_
    rintro e w5 hp
    rcases hp.cases with ⟨x5,ts5,v5,hq5,hf,hi,rfl,hv⟩|⟨ts5,hq5,hf,hi,rfl⟩
    ·clear hp
     obtain⟨p5,n5,k5,rfl⟩:=row_shp hv
     have hV5:=row_own (b:=w.heap.size+1) hv (by first|omega|(simp;done)|(simp;omega)) (Fr.refl [] _) (by simp)
     obtain⟨hT,HB5,HI5,HF5,hz5⟩:=Inv.st [] HB3.out HF3.out hf hi
     try simp at hz5
     have HV5:=hid hV5
     have hl5:ts5.length≤ts.length:=(Shr.pos Shr.name _ _).ok hq5.out
     clear hT hf hi hV5 hv
     have hlB:w.heap.size<w5.heap.size:=by omega
     obtain⟨b0,b1,b2,b3,b4,b5,b6,b7,g0,g1,g2,g3,g4,g5,g6,g7⟩:=HB5.out.cf8
     go_wp2_with fail
     refine bodyPost_ret (v:=.agg #[.int .i64 15,.string ⟨#[]⟩,.string ⟨x.toArray⟩,.string ⟨#[]⟩,.slice p5 n5 k5,.int .i64 0,.slice none 0 0,.int .i64 0]) (by simp[results,Tryz.results133,go_sem,hlB,b0,b1,b2,b3,b4,b5,b6,b7,g0,g1,g2,g3,g4,g5,g6,g7]) rfl ?_
     clear hlB b0 b1 b2 b3 b4 b5 b6 b7 g0 g1 g2 g3 g4 g5 g6 g7
     exact RP.ok (by simp only[Px.afterName,bind,Px.Rd.bind,offset_res,if_true,if_false,Bool.false_eq_true,Px.wordR,if_pos N1.out,hq1.out,hq3.out,hq5.out] <;> rfl) (HF5.out.jf [w.heap.size]) (HI5.out.f [w.heap.size] H.out) ⟨_,rfl,rep_int.2 ⟨_,rfl,rep_str.2 ⟨_,rfl,rep_str.2 ⟨_,rfl,rep_str.2 ⟨_,rfl,rep_sl.2 ⟨_,_,rfl,(row_own (b:=w.heap.size) HV5.out (by first|omega|(simp;done)|(simp;omega)) (X:=[w.heap.size]) frk (by first|omega|(simp;done)|(simp;omega))),rep_int.2 ⟨_,rfl,rep_sl.2 ⟨_,_,rfl,RowV.nil _ _ _ _,rep_int.2 ⟨_,rfl,rep_nil.2 rfl⟩⟩⟩⟩⟩⟩⟩⟩⟩
    ·go_wp2_with fail
     exact⟨rfl,RP.bad (by simp only[Px.afterName,bind,Px.Rd.bind,offset_res,if_true,if_false,Bool.false_eq_true,Px.wordR,if_pos N1.out,hq1.out,hq3.out,hq5.out]) (HF3.out.jt [] hf) hi⟩
   ·have n1:(Px.word ts == [40])=false:=by simpa using e1
    have N1:=hid e1
    clear e1
    go_wp2_with fail
    refine(accept_any c ts [[58,58]] _ _ 1 (by exact HI3.out.f [] H.out) rfl (by exact Blk.new_at (by simp)) rfl (by decide)).mono ?_
    rintro e w6 hp
    rcases hp.accept with ⟨hq6,_,hf,hi,rfl⟩|⟨hq6,hf,hi,rfl⟩
    ·clear hp
     have hl6:=accept_pos hq6.out rfl
     obtain⟨hT,HB6,HI6,HF6,hz6⟩:=Inv.st [] HB3.out HF3.out hf hi
     try simp at hz6
     clear hT hf hi
     go_wp2_with fail
     refine(name_any c ts.tail _ (by exact HI6.out.f [] H.out)).mono ?_
     rintro e w7 hp
     rcases hp.cases with ⟨x7,ts7,v7,hq7,hf,hi,rfl,hv⟩|⟨ts7,hq7,hf,hi,rfl⟩
     ·clear hp
      obtain rfl:=hv
      obtain⟨hT,HB7,HI7,HF7,hz7⟩:=Inv.st [] HB6.out HF6.out hf hi
      try simp at hz7
      have hl7:ts7.length<ts.tail.length:=Strict.name _ _ _ hq7.out
      clear hT hf hi
      have hlB:w.heap.size<w7.heap.size:=by omega
      obtain⟨b0,b1,b2,b3,b4,b5,b6,b7,g0,g1,g2,g3,g4,g5,g6,g7⟩:=HB7.out.cf8
      go_wp2_with fail
      refine bodyPost_ret (v:=.agg #[.int .i64 16,.string ⟨#[]⟩,.string ⟨x.toArray⟩,.string ⟨#[]⟩,.slice (some ⟨w7.heap.size,0,none⟩) 1 1,.int .i64 0,.slice none 0 0,.int .i64 0]) (by simp[results,Tryz.results133,go_sem,hlB,b0,b1,b2,b3,b4,b5,b6,b7,g0,g1,g2,g3,g4,g5,g6,g7]) rfl ?_
      clear hlB b0 b1 b2 b3 b4 b5 b6 b7 g0 g1 g2 g3 g4 g5 g6 g7
      exact RP.ok (a:={ Px.expr0 with kind:=16,name:=x,names:=[x7] }) (by simp only[Px.afterName,bind,Px.Rd.bind,offset_res,if_true,if_false,Bool.false_eq_true,Px.wordR,if_neg N1.out,hq1.out,hq3.out,hq6.out,hq7.out] <;> rfl) (HF7.out.jf [w.heap.size]) (HI7.out.f [w.heap.size] H.out) ⟨_,rfl,rep_int.2 ⟨_,rfl,rep_str.2 ⟨_,rfl,rep_str.2 ⟨_,rfl,rep_str.2 ⟨_,rfl,rep_sl.2 ⟨_,_,rfl,(strs_row (l:=[x7]) (b:=w.heap.size) (g:=w7.heap.size) (show Blk _ _ _ #[.string ⟨x7.toArray⟩] from (by repeat' (first|with_reducible refine Blk.new_at ?_|with_reducible refine Blk.alloc ?_ _|with_reducible refine Blk.other ?_ ?_ _|(simp;done)|(simp;omega)))) (by omega) (by simp) (by simp)),rep_int.2 ⟨_,rfl,rep_sl.2 ⟨_,_,rfl,RowV.nil _ _ _ _,rep_int.2 ⟨_,rfl,rep_nil.2 rfl⟩⟩⟩⟩⟩⟩⟩⟩⟩
     ·go_wp2_with fail
      exact⟨rfl,RP.bad (by simp only[Px.afterName,bind,Px.Rd.bind,offset_res,if_true,if_false,Bool.false_eq_true,Px.wordR,if_neg N1.out,hq1.out,hq3.out,hq6.out,hq7.out]) (HF6.out.jt [] hf) hi⟩
    ·clear hp
     obtain⟨hT,HB6,HI6,HF6,hz6⟩:=Inv.st [] HB3.out HF3.out hf hi
     try simp at hz6
     clear hT hf hi
     have hlB:w.heap.size<w6.heap.size:=by omega
     obtain⟨b0,b1,b2,b3,b4,b5,b6,b7,g0,g1,g2,g3,g4,g5,g6,g7⟩:=HB6.out.cf8
     go_wp2_with fail
     refine bodyPost_ret (v:=.agg #[.int .i64 2,.string ⟨#[]⟩,.string ⟨#[]⟩,.string ⟨#[]⟩,.slice (some ⟨w6.heap.size,0,none⟩) 1 1,.int .i64 0,.slice none 0 0,.int .i64 0]) (by simp[results,Tryz.results133,go_sem,hlB,b0,b1,b2,b3,b4,b5,b6,b7,g0,g1,g2,g3,g4,g5,g6,g7]) rfl ?_
     clear hlB b0 b1 b2 b3 b4 b5 b6 b7 g0 g1 g2 g3 g4 g5 g6 g7
     exact RP.ok (a:={ Px.expr0 with kind:=2,names:=[x] }) (by simp only[Px.afterName,bind,Px.Rd.bind,offset_res,if_true,if_false,Bool.false_eq_true,Px.wordR,if_neg N1.out,hq1.out,hq3.out,hq6.out] <;> rfl) (HF6.out.jf [w.heap.size]) (HI6.out.f [w.heap.size] H.out) ⟨_,rfl,rep_int.2 ⟨_,rfl,rep_str.2 ⟨_,rfl,rep_str.2 ⟨_,rfl,rep_str.2 ⟨_,rfl,rep_sl.2 ⟨_,_,rfl,(strs_row (l:=[x]) (b:=w.heap.size) (g:=w6.heap.size) (show Blk _ _ _ #[.string ⟨x.toArray⟩] from (by repeat' (first|with_reducible refine Blk.new_at ?_|with_reducible refine Blk.alloc ?_ _|with_reducible refine Blk.other ?_ ?_ _|(simp;done)|(simp;omega)))) (by omega) (by simp) (by simp)),rep_int.2 ⟨_,rfl,rep_sl.2 ⟨_,_,rfl,RowV.nil _ _ _ _,rep_int.2 ⟨_,rfl,rep_nil.2 rfl⟩⟩⟩⟩⟩⟩⟩⟩⟩
end Go.Proofs.YtghohohagbbajaaGreatDoor
