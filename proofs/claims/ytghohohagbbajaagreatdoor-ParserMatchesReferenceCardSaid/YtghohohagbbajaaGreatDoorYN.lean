/- part of the proof -/
import Derived.Test.YtghohohagbbajaaGreatDoorYM
import Derived.OwnWalk
set_option linter.unusedVariables false
set_option linter.unusedSimpArgs false
set_option linter.unusedSectionVars false
namespace Go.Proofs.YtghohohagbbajaaGreatDoor
open Go.RowKit Go.Lib
open Lx (Tk)
open Px (Txt TyE VarD DataD TraitD BoundD ImplD ArgD ExprD StmtD ArmD FuncD ModD)
set_option maxRecDepth 100000 in
set_option maxHeartbeats 1600000 in
theorem list_ty (c:Ctx) (F m:Nat) (read:Px.Rd TyE) (hE:Enters F) (hr:Reads c F m (okAgg typeQ) read) (hs:Shr read) (ts:List Tk) (w:World) (h:Inv c ts w) (hm:ts.length<m) :
  Calls Tryz.prog 128 #[.pointer (some ⟨c.R,0,none⟩),.func (.func F) #[.pointer (some ⟨c.R,0,none⟩)] #[]] w (RP c w (okRow 39 3 typeQ) (Px.list read ts)):=by
 obtain⟨i0,hi,hz0,hz1,hz2⟩:=info_parts info_ty
 have hE':∀ (args:Array Value) (w:World),(callFunc F args).run Tryz.prog w=.ok (.enter F args) w:=hE
 have HR:=hid (hr ts w h hm)
 have HRR:Hid (Reads c F m (okAgg typeQ) read):=hid hr
 have HSH:=hid hs
 have H:=hid h
 have HI:=hid hi
 clear hr hs h hi
 go_enter Tryz.func128,Tryz.ntmps128
 go_wp2_with fail
 refine HR.out.mono ?_
 rintro e w1 hp
 rcases hp.cases with ⟨a,ts1,v,hq,hf,hi1,rfl,hv⟩|⟨ts1,hq,hf,hi1,rfl⟩
 ·obtain⟨cs,rfl,hrep⟩:=hv
  obtain⟨x1,x2,x3,rfl⟩:=cells_3 (hrep.len.trans (len_typeQ a))
  clear hp
  go_wp2_with fail
  have hB0:=hf.size
  have hL1:ListAt (w1.alloc (.cells #[x1,x2,x3] 39)) w.heap.size 39 3 1 (typeQ a) (.slice (some ⟨w1.heap.size,0,none⟩) 1 1) :=
   ListAt.one hB0 (alloc_new _ _) rfl (hrep.mono (fun k hk hl=>⟨⟨hk,by omega⟩,Below.heap_alloc _ _ _ hl⟩))
  have HQ:=hid hq
  have HL1:=hid hL1
  have HF1:=hid (hf.alloc (.cells #[x1,x2,x3] 39))
  have HI1:=hid (hi1.alloc (.cells #[x1,x2,x3] 39))
  have HS1:ts1.length≤ts.length:=HSH.out.ok hq.out
  have HLEN:ts.length≤6000:=H.out.few
  clear hL1 hq hrep hf hi1
  go_loopw [5] (fun v wr=>∃ (acc:List TyE) (ts':List Tk) (k:Nat),ListAt wr w.heap.size 39 3 acc.length (rowsQ typeQ acc) v∧Inv c ts' wr∧Fr [c.R] w wr∧acc.length+ts'.length≤ts.length+1∧ts'.length<k∧ts'.length≤ts.length∧Px.list read ts=Px.listT read k acc ts') (fun _ wr=>tokLen c wr)
  case atStart =>
   refine⟨[a],ts1,ts.length+1,by rw[rowsQ_one];exact HL1.out,HI1.out,HF1.out,by simp;omega,by omega,HS1,?_⟩
   simp only[Px.list,Px.Rd.bind,HQ.out.out]
  case round =>
   obtain⟨acc,ts',k,hL,hi,hf,hn,hk,hle,heq⟩:=hrel
   cases k with
   | zero=>omega
   | succ k =>
   have HEQ:=hid heq
   have HL:=hid hL
   have HI2:=hid hi
   have HF:=hid hf
   clear heq hL hi hf
   go_wp2_with fail
   refine(accept_any c ts' [[44]] _ _ 1 (HI2.out.alloc _) rfl (Blk.new _ _ _) rfl (by decide)).mono ?_
   rintro e w2 hp
   rcases hp.accept with ⟨hq,_,hf2,hi2,rfl⟩|⟨hq,hf2,hi2,rfl⟩
   ·have hlt:=accept_pos hq.out rfl
    clear hp
    have hfa:=hid (((Fr.refl [c.R] wr).alloc (.cells #[Value.string ⟨#[44]⟩] 9)).trans hf2)
    have HQ2:=hid hq
    have HI3:=hid hi2
    have hb2:=(hf2.size)
    simp only[World.size_alloc] at hb2
    clear hq hf2 hi2
    go_wp2_with fail
    refine(HRR.out ts'.tail w2 HI3.out (by omega)).mono ?_
    rintro e w3 hp
    rcases hp.cases with ⟨b,ts3,v3,hq3,hf3,hi3,rfl,hv3⟩|⟨ts3,hq3,hf3,hi3,rfl⟩
    ·obtain⟨cs,rfl,hrep⟩:=hv3
     obtain⟨y1,y2,y3,rfl⟩:=cells_3 (hrep.len.trans (len_typeQ b))
     clear hp
     obtain⟨g1,g2,g3,g4⟩:=append_ready (news:=[y1,y2,y3]) HL.out (by omega) (hfa.out.trans hf3) H.out.lt.1 HF.out.size hrep 39
     have G1:=hid g1
     have G2:=hid g2
     have G3:=hid g3
     have HQ3:=hid hq3
     have HF3:=hid hf3
     have HI4:=hid hi3
     have hle3:=HSH.out.ok hq3.out
     clear g1 g2 g3 hq3 hf3 hi3 hrep
     go_wp2_with (at_builtin;refine wpList_append_list _ rfl _ _ 37 rfl w.heap.size 39 i0 _ 3 48 Tryz.underlying37 HI.out hz0 hz1 hz2 rfl (by decide) _ acc.length 1 (rowsQ typeQ acc) (typeQ b) rfl G1.out ⟨w3.heap.size,0,none⟩ 1 [y1,y2,y3] rfl (by decide) rfl G2.out G3.out ?c1 (by decide) g4 ?_)
     case c1=>omega
     intro v' w4 hL4 hg4
     have hown:∀ k,u5.ownBlock=some k→w.heap.size≤k:=fun k e=>(HL.out.own k e).1
     have hI4:=(HI4.out.alloc (.cells #[y1,y2,y3] 39)).grown H.out hg4 hown
     have hF4:=(((HF.out.trans hfa.out).trans HF3.out).alloc (.cells #[y1,y2,y3] 39)).grown hg4 hown
     have HI5:=hid hI4
     have HF5:=hid hF4
     have HL5:=hid hL4
     clear hI4 hF4 hL4 hg4 hown
     go_wp2_with fail
     go_roundw
     case rel=>exact⟨acc ++ [b],_,k,by rw[List.length_append,rowsQ_snoc];exact HL5.out,HI5.out,HF5.out,by simp;omega,by omega,by omega,by rw[HEQ.out];exact listT_ok HQ2.out.out HQ3.out.out⟩
     case measure=>rw[HI5.out.tokLen,HI2.out.tokLen];omega
    ·go_wp2_with fail
     refine⟨rfl,RP.bad ?_ ((HF.out.trans hfa.out).trans hf3) hi3⟩
     rw[HEQ.out]
     exact listT_bad HQ2.out.out hq3.out
   ·clear hp
    have HQ2:=hid hq
    have HI3:=hid hi2
    have HF3:=hid (((HF.out).alloc (.cells #[Value.string ⟨#[44]⟩] 9)).trans hf2)
    have HL3:=hid ((HL.out.keep (X:=[]) ((Fr.refl _ _).alloc (.cells #[Value.string ⟨#[44]⟩] 9)) (by simp)).keep hf2 (by simpa using H.out.lt.1))
    clear hq hf2 hi2
    go_wp2_with fail
    go_ret
    exact RP.ok (by rw[HEQ.out];exact listT_no HQ2.out.out) HF3.out HI3.out HL3.out.row
 ·go_wp2_with fail
  exact⟨rfl,RP.bad (by simp only[Px.list,Px.Rd.bind,hq.out]) hf hi1⟩
set_option maxRecDepth 100000 in
set_option maxHeartbeats 1600000 in
theorem list_var (c:Ctx) (F m:Nat) (read:Px.Rd VarD) (hE:Enters F) (hr:Reads c F m (okAgg varQ) read) (hs:Shr read) (ts:List Tk) (w:World) (h:Inv c ts w) (hm:ts.length<m) :
  Calls Tryz.prog 115 #[.pointer (some ⟨c.R,0,none⟩),.func (.func F) #[.pointer (some ⟨c.R,0,none⟩)] #[]] w (RP c w (okRow 47 3 varQ) (Px.list read ts)):=by
 obtain⟨i0,hi,hz0,hz1,hz2⟩:=info_parts info_var
 have hE':∀ (args:Array Value) (w:World),(callFunc F args).run Tryz.prog w=.ok (.enter F args) w:=hE
 have HR:=hid (hr ts w h hm)
 have HRR:Hid (Reads c F m (okAgg varQ) read):=hid hr
 have HSH:=hid hs
 have H:=hid h
 have HI:=hid hi
 clear hr hs h hi
 go_enter Tryz.func115,Tryz.ntmps115
 go_wp2_with fail
 refine HR.out.mono ?_
 rintro e w1 hp
 rcases hp.cases with ⟨a,ts1,v,hq,hf,hi1,rfl,hv⟩|⟨ts1,hq,hf,hi1,rfl⟩
 ·obtain⟨cs,rfl,hrep⟩:=hv
  obtain⟨x1,x2,x3,rfl⟩:=cells_3 (hrep.len.trans (len_varQ a))
  clear hp
  go_wp2_with fail
  have hB0:=hf.size
  have hL1:ListAt (w1.alloc (.cells #[x1,x2,x3] 47)) w.heap.size 47 3 1 (varQ a) (.slice (some ⟨w1.heap.size,0,none⟩) 1 1) :=
   ListAt.one hB0 (alloc_new _ _) rfl (hrep.mono (fun k hk hl=>⟨⟨hk,by omega⟩,Below.heap_alloc _ _ _ hl⟩))
  have HQ:=hid hq
  have HL1:=hid hL1
  have HF1:=hid (hf.alloc (.cells #[x1,x2,x3] 47))
  have HI1:=hid (hi1.alloc (.cells #[x1,x2,x3] 47))
  have HS1:ts1.length≤ts.length:=HSH.out.ok hq.out
  have HLEN:ts.length≤6000:=H.out.few
  clear hL1 hq hrep hf hi1
  go_loopw [5] (fun v wr=>∃ (acc:List VarD) (ts':List Tk) (k:Nat),ListAt wr w.heap.size 47 3 acc.length (rowsQ varQ acc) v∧Inv c ts' wr∧Fr [c.R] w wr∧acc.length+ts'.length≤ts.length+1∧ts'.length<k∧ts'.length≤ts.length∧Px.list read ts=Px.listT read k acc ts') (fun _ wr=>tokLen c wr)
  case atStart =>
   refine⟨[a],ts1,ts.length+1,by rw[rowsQ_one];exact HL1.out,HI1.out,HF1.out,by simp;omega,by omega,HS1,?_⟩
   simp only[Px.list,Px.Rd.bind,HQ.out.out]
  case round =>
   obtain⟨acc,ts',k,hL,hi,hf,hn,hk,hle,heq⟩:=hrel
   cases k with
   | zero=>omega
   | succ k =>
   have HEQ:=hid heq
   have HL:=hid hL
   have HI2:=hid hi
   have HF:=hid hf
   clear heq hL hi hf
   go_wp2_with fail
   refine(accept_any c ts' [[44]] _ _ 1 (HI2.out.alloc _) rfl (Blk.new _ _ _) rfl (by decide)).mono ?_
   rintro e w2 hp
   rcases hp.accept with ⟨hq,_,hf2,hi2,rfl⟩|⟨hq,hf2,hi2,rfl⟩
   ·have hlt:=accept_pos hq.out rfl
    clear hp
    have hfa:=hid (((Fr.refl [c.R] wr).alloc (.cells #[Value.string ⟨#[44]⟩] 9)).trans hf2)
    have HQ2:=hid hq
    have HI3:=hid hi2
    have hb2:=(hf2.size)
    simp only[World.size_alloc] at hb2
    clear hq hf2 hi2
    go_wp2_with fail
    refine(HRR.out ts'.tail w2 HI3.out (by omega)).mono ?_
    rintro e w3 hp
    rcases hp.cases with ⟨b,ts3,v3,hq3,hf3,hi3,rfl,hv3⟩|⟨ts3,hq3,hf3,hi3,rfl⟩
    ·obtain⟨cs,rfl,hrep⟩:=hv3
     obtain⟨y1,y2,y3,rfl⟩:=cells_3 (hrep.len.trans (len_varQ b))
     clear hp
     obtain⟨g1,g2,g3,g4⟩:=append_ready (news:=[y1,y2,y3]) HL.out (by omega) (hfa.out.trans hf3) H.out.lt.1 HF.out.size hrep 47
     have G1:=hid g1
     have G2:=hid g2
     have G3:=hid g3
     have HQ3:=hid hq3
     have HF3:=hid hf3
     have HI4:=hid hi3
     have hle3:=HSH.out.ok hq3.out
     clear g1 g2 g3 hq3 hf3 hi3 hrep
     go_wp2_with (at_builtin;refine wpList_append_list _ rfl _ _ 43 rfl w.heap.size 47 i0 _ 3 48 Tryz.underlying43 HI.out hz0 hz1 hz2 rfl (by decide) _ acc.length 1 (rowsQ varQ acc) (varQ b) rfl G1.out ⟨w3.heap.size,0,none⟩ 1 [y1,y2,y3] rfl (by decide) rfl G2.out G3.out ?c1 (by decide) g4 ?_)
     case c1=>omega
     intro v' w4 hL4 hg4
     have hown:∀ k,u5.ownBlock=some k→w.heap.size≤k:=fun k e=>(HL.out.own k e).1
     have hI4:=(HI4.out.alloc (.cells #[y1,y2,y3] 47)).grown H.out hg4 hown
     have hF4:=(((HF.out.trans hfa.out).trans HF3.out).alloc (.cells #[y1,y2,y3] 47)).grown hg4 hown
     have HI5:=hid hI4
     have HF5:=hid hF4
     have HL5:=hid hL4
     clear hI4 hF4 hL4 hg4 hown
     go_wp2_with fail
     go_roundw
     case rel=>exact⟨acc ++ [b],_,k,by rw[List.length_append,rowsQ_snoc];exact HL5.out,HI5.out,HF5.out,by simp;omega,by omega,by omega,by rw[HEQ.out];exact listT_ok HQ2.out.out HQ3.out.out⟩
     case measure=>rw[HI5.out.tokLen,HI2.out.tokLen];omega
    ·go_wp2_with fail
     refine⟨rfl,RP.bad ?_ ((HF.out.trans hfa.out).trans hf3) hi3⟩
     rw[HEQ.out]
     exact listT_bad HQ2.out.out hq3.out
   ·clear hp
    have HQ2:=hid hq
    have HI3:=hid hi2
    have HF3:=hid (((HF.out).alloc (.cells #[Value.string ⟨#[44]⟩] 9)).trans hf2)
    have HL3:=hid ((HL.out.keep (X:=[]) ((Fr.refl _ _).alloc (.cells #[Value.string ⟨#[44]⟩] 9)) (by simp)).keep hf2 (by simpa using H.out.lt.1))
    clear hq hf2 hi2
    go_wp2_with fail
    go_ret
    exact RP.ok (by rw[HEQ.out];exact listT_no HQ2.out.out) HF3.out HI3.out HL3.out.row
 ·go_wp2_with fail
  exact⟨rfl,RP.bad (by simp only[Px.list,Px.Rd.bind,hq.out]) hf hi1⟩
set_option maxRecDepth 100000 in
set_option maxHeartbeats 1600000 in
theorem list_bound (c:Ctx) (F m:Nat) (read:Px.Rd BoundD) (hE:Enters F) (hr:Reads c F m (okAgg boundQ) read) (hs:Shr read) (ts:List Tk) (w:World) (h:Inv c ts w) (hm:ts.length<m) :
  Calls Tryz.prog 138 #[.pointer (some ⟨c.R,0,none⟩),.func (.func F) #[.pointer (some ⟨c.R,0,none⟩)] #[]] w (RP c w (okRow 131 3 boundQ) (Px.list read ts)):=by
 obtain⟨i0,hi,hz0,hz1,hz2⟩:=info_parts info_bound
 have hE':∀ (args:Array Value) (w:World),(callFunc F args).run Tryz.prog w=.ok (.enter F args) w:=hE
 have HR:=hid (hr ts w h hm)
 have HRR:Hid (Reads c F m (okAgg boundQ) read):=hid hr
 have HSH:=hid hs
 have H:=hid h
 have HI:=hid hi
 clear hr hs h hi
 go_enter Tryz.func138,Tryz.ntmps138
 go_wp2_with fail
 refine HR.out.mono ?_
 rintro e w1 hp
 rcases hp.cases with ⟨a,ts1,v,hq,hf,hi1,rfl,hv⟩|⟨ts1,hq,hf,hi1,rfl⟩
 ·obtain⟨cs,rfl,hrep⟩:=hv
  obtain⟨x1,x2,x3,rfl⟩:=cells_3 (hrep.len.trans (len_boundQ a))
  clear hp
  go_wp2_with fail
  have hB0:=hf.size
  have hL1:ListAt (w1.alloc (.cells #[x1,x2,x3] 131)) w.heap.size 131 3 1 (boundQ a) (.slice (some ⟨w1.heap.size,0,none⟩) 1 1) :=
   ListAt.one hB0 (alloc_new _ _) rfl (hrep.mono (fun k hk hl=>⟨⟨hk,by omega⟩,Below.heap_alloc _ _ _ hl⟩))
  have HQ:=hid hq
  have HL1:=hid hL1
  have HF1:=hid (hf.alloc (.cells #[x1,x2,x3] 131))
  have HI1:=hid (hi1.alloc (.cells #[x1,x2,x3] 131))
  have HS1:ts1.length≤ts.length:=HSH.out.ok hq.out
  have HLEN:ts.length≤6000:=H.out.few
  clear hL1 hq hrep hf hi1
  go_loopw [5] (fun v wr=>∃ (acc:List BoundD) (ts':List Tk) (k:Nat),ListAt wr w.heap.size 131 3 acc.length (rowsQ boundQ acc) v∧Inv c ts' wr∧Fr [c.R] w wr∧acc.length+ts'.length≤ts.length+1∧ts'.length<k∧ts'.length≤ts.length∧Px.list read ts=Px.listT read k acc ts') (fun _ wr=>tokLen c wr)
  case atStart =>
   refine⟨[a],ts1,ts.length+1,by rw[rowsQ_one];exact HL1.out,HI1.out,HF1.out,by simp;omega,by omega,HS1,?_⟩
   simp only[Px.list,Px.Rd.bind,HQ.out.out]
  case round =>
   obtain⟨acc,ts',k,hL,hi,hf,hn,hk,hle,heq⟩:=hrel
   cases k with
   | zero=>omega
   | succ k =>
   have HEQ:=hid heq
   have HL:=hid hL
   have HI2:=hid hi
   have HF:=hid hf
   clear heq hL hi hf
   go_wp2_with fail
   refine(accept_any c ts' [[44]] _ _ 1 (HI2.out.alloc _) rfl (Blk.new _ _ _) rfl (by decide)).mono ?_
   rintro e w2 hp
   rcases hp.accept with ⟨hq,_,hf2,hi2,rfl⟩|⟨hq,hf2,hi2,rfl⟩
   ·have hlt:=accept_pos hq.out rfl
    clear hp
    have hfa:=hid (((Fr.refl [c.R] wr).alloc (.cells #[Value.string ⟨#[44]⟩] 9)).trans hf2)
    have HQ2:=hid hq
    have HI3:=hid hi2
    have hb2:=(hf2.size)
    simp only[World.size_alloc] at hb2
    clear hq hf2 hi2
    go_wp2_with fail
    refine(HRR.out ts'.tail w2 HI3.out (by omega)).mono ?_
    rintro e w3 hp
    rcases hp.cases with ⟨b,ts3,v3,hq3,hf3,hi3,rfl,hv3⟩|⟨ts3,hq3,hf3,hi3,rfl⟩
    ·obtain⟨cs,rfl,hrep⟩:=hv3
     obtain⟨y1,y2,y3,rfl⟩:=cells_3 (hrep.len.trans (len_boundQ b))
     clear hp
     obtain⟨g1,g2,g3,g4⟩:=append_ready (news:=[y1,y2,y3]) HL.out (by omega) (hfa.out.trans hf3) H.out.lt.1 HF.out.size hrep 131
     have G1:=hid g1
     have G2:=hid g2
     have G3:=hid g3
     have HQ3:=hid hq3
     have HF3:=hid hf3
     have HI4:=hid hi3
     have hle3:=HSH.out.ok hq3.out
     clear g1 g2 g3 hq3 hf3 hi3 hrep
     go_wp2_with (at_builtin;refine wpList_append_list _ rfl _ _ 35 rfl w.heap.size 131 i0 _ 3 40 Tryz.underlying35 HI.out hz0 hz1 hz2 rfl (by decide) _ acc.length 1 (rowsQ boundQ acc) (boundQ b) rfl G1.out ⟨w3.heap.size,0,none⟩ 1 [y1,y2,y3] rfl (by decide) rfl G2.out G3.out ?c1 (by decide) g4 ?_)
     case c1=>omega
     intro v' w4 hL4 hg4
     have hown:∀ k,u5.ownBlock=some k→w.heap.size≤k:=fun k e=>(HL.out.own k e).1
     have hI4:=(HI4.out.alloc (.cells #[y1,y2,y3] 131)).grown H.out hg4 hown
     have hF4:=(((HF.out.trans hfa.out).trans HF3.out).alloc (.cells #[y1,y2,y3] 131)).grown hg4 hown
     have HI5:=hid hI4
     have HF5:=hid hF4
     have HL5:=hid hL4
     clear hI4 hF4 hL4 hg4 hown
     go_wp2_with fail
     go_roundw
     case rel=>exact⟨acc ++ [b],_,k,by rw[List.length_append,rowsQ_snoc];exact HL5.out,HI5.out,HF5.out,by simp;omega,by omega,by omega,by rw[HEQ.out];exact listT_ok HQ2.out.out HQ3.out.out⟩
     case measure=>rw[HI5.out.tokLen,HI2.out.tokLen];omega
    ·go_wp2_with fail
     refine⟨rfl,RP.bad ?_ ((HF.out.trans hfa.out).trans hf3) hi3⟩
     rw[HEQ.out]
     exact listT_bad HQ2.out.out hq3.out
   ·clear hp
    have HQ2:=hid hq
    have HI3:=hid hi2
    have HF3:=hid (((HF.out).alloc (.cells #[Value.string ⟨#[44]⟩] 9)).trans hf2)
    have HL3:=hid ((HL.out.keep (X:=[]) ((Fr.refl _ _).alloc (.cells #[Value.string ⟨#[44]⟩] 9)) (by simp)).keep hf2 (by simpa using H.out.lt.1))
    clear hq hf2 hi2
    go_wp2_with fail
    go_ret
    exact RP.ok (by rw[HEQ.out];exact listT_no HQ2.out.out) HF3.out HI3.out HL3.out.row
 ·go_wp2_with fail
  exact⟨rfl,RP.bad (by simp only[Px.list,Px.Rd.bind,hq.out]) hf hi1⟩
set_option maxRecDepth 100000 in
set_option maxHeartbeats 1600000 in
theorem list_arg (c:Ctx) (F m:Nat) (read:Px.Rd ArgD) (hE:Enters F) (hr:Reads c F m (okAgg argQ) read) (hs:Shr read) (ts:List Tk) (w:World) (h:Inv c ts w) (hm:ts.length<m) :
  Calls Tryz.prog 135 #[.pointer (some ⟨c.R,0,none⟩),.func (.func F) #[.pointer (some ⟨c.R,0,none⟩)] #[]] w (RP c w (okRow 155 6 argQ) (Px.list read ts)):=by
 obtain⟨i0,hi,hz0,hz1,hz2⟩:=info_parts info_arg
 have hE':∀ (args:Array Value) (w:World),(callFunc F args).run Tryz.prog w=.ok (.enter F args) w:=hE
 have HR:=hid (hr ts w h hm)
 have HRR:Hid (Reads c F m (okAgg argQ) read):=hid hr
 have HSH:=hid hs
 have H:=hid h
 have HI:=hid hi
 clear hr hs h hi
 go_enter Tryz.func135,Tryz.ntmps135
 go_wp2_with fail
 refine HR.out.mono ?_
 rintro e w1 hp
 rcases hp.cases with ⟨a,ts1,v,hq,hf,hi1,rfl,hv⟩|⟨ts1,hq,hf,hi1,rfl⟩
 ·obtain⟨cs,rfl,hrep⟩:=hv
  obtain⟨x1,x2,x3,x4,x5,x6,rfl⟩:=cells_6 (hrep.len.trans (len_argQ a))
  clear hp
  go_wp2_with fail
  have hB0:=hf.size
  have hL1:ListAt (w1.alloc (.cells #[x1,x2,x3,x4,x5,x6] 155)) w.heap.size 155 6 1 (argQ a) (.slice (some ⟨w1.heap.size,0,none⟩) 1 1) :=
   ListAt.one hB0 (alloc_new _ _) rfl (hrep.mono (fun k hk hl=>⟨⟨hk,by omega⟩,Below.heap_alloc _ _ _ hl⟩))
  have HQ:=hid hq
  have HL1:=hid hL1
  have HF1:=hid (hf.alloc (.cells #[x1,x2,x3,x4,x5,x6] 155))
  have HI1:=hid (hi1.alloc (.cells #[x1,x2,x3,x4,x5,x6] 155))
  have HS1:ts1.length≤ts.length:=HSH.out.ok hq.out
  have HLEN:ts.length≤6000:=H.out.few
  clear hL1 hq hrep hf hi1
  go_loopw [5] (fun v wr=>∃ (acc:List ArgD) (ts':List Tk) (k:Nat),ListAt wr w.heap.size 155 6 acc.length (rowsQ argQ acc) v∧Inv c ts' wr∧Fr [c.R] w wr∧acc.length+ts'.length≤ts.length+1∧ts'.length<k∧ts'.length≤ts.length∧Px.list read ts=Px.listT read k acc ts') (fun _ wr=>tokLen c wr)
  case atStart =>
   refine⟨[a],ts1,ts.length+1,by rw[rowsQ_one];exact HL1.out,HI1.out,HF1.out,by simp;omega,by omega,HS1,?_⟩
   simp only[Px.list,Px.Rd.bind,HQ.out.out]
  case round =>
   obtain⟨acc,ts',k,hL,hi,hf,hn,hk,hle,heq⟩:=hrel
   cases k with
   | zero=>omega
   | succ k =>
   have HEQ:=hid heq
   have HL:=hid hL
   have HI2:=hid hi
   have HF:=hid hf
   clear heq hL hi hf
   go_wp2_with fail
   refine(accept_any c ts' [[44]] _ _ 1 (HI2.out.alloc _) rfl (Blk.new _ _ _) rfl (by decide)).mono ?_
   rintro e w2 hp
   rcases hp.accept with ⟨hq,_,hf2,hi2,rfl⟩|⟨hq,hf2,hi2,rfl⟩
   ·have hlt:=accept_pos hq.out rfl
    clear hp
    have hfa:=hid (((Fr.refl [c.R] wr).alloc (.cells #[Value.string ⟨#[44]⟩] 9)).trans hf2)
    have HQ2:=hid hq
    have HI3:=hid hi2
    have hb2:=(hf2.size)
    simp only[World.size_alloc] at hb2
    clear hq hf2 hi2
    go_wp2_with fail
    refine(HRR.out ts'.tail w2 HI3.out (by omega)).mono ?_
    rintro e w3 hp
    rcases hp.cases with ⟨b,ts3,v3,hq3,hf3,hi3,rfl,hv3⟩|⟨ts3,hq3,hf3,hi3,rfl⟩
    ·obtain⟨cs,rfl,hrep⟩:=hv3
     obtain⟨y1,y2,y3,y4,y5,y6,rfl⟩:=cells_6 (hrep.len.trans (len_argQ b))
     clear hp
     obtain⟨g1,g2,g3,g4⟩:=append_ready (news:=[y1,y2,y3,y4,y5,y6]) HL.out (by omega) (hfa.out.trans hf3) H.out.lt.1 HF.out.size hrep 155
     have G1:=hid g1
     have G2:=hid g2
     have G3:=hid g3
     have HQ3:=hid hq3
     have HF3:=hid hf3
     have HI4:=hid hi3
     have hle3:=HSH.out.ok hq3.out
     clear g1 g2 g3 hq3 hf3 hi3 hrep
     go_wp2_with (at_builtin;refine wpList_append_list _ rfl _ _ 36 rfl w.heap.size 155 i0 _ 6 80 Tryz.underlying36 HI.out hz0 hz1 hz2 rfl (by decide) _ acc.length 1 (rowsQ argQ acc) (argQ b) rfl G1.out ⟨w3.heap.size,0,none⟩ 1 [y1,y2,y3,y4,y5,y6] rfl (by decide) rfl G2.out G3.out ?c1 (by decide) g4 ?_)
     case c1=>omega
     intro v' w4 hL4 hg4
     have hown:∀ k,u5.ownBlock=some k→w.heap.size≤k:=fun k e=>(HL.out.own k e).1
     have hI4:=(HI4.out.alloc (.cells #[y1,y2,y3,y4,y5,y6] 155)).grown H.out hg4 hown
     have hF4:=(((HF.out.trans hfa.out).trans HF3.out).alloc (.cells #[y1,y2,y3,y4,y5,y6] 155)).grown hg4 hown
     have HI5:=hid hI4
     have HF5:=hid hF4
     have HL5:=hid hL4
     clear hI4 hF4 hL4 hg4 hown
     go_wp2_with fail
     go_roundw
     case rel=>exact⟨acc ++ [b],_,k,by rw[List.length_append,rowsQ_snoc];exact HL5.out,HI5.out,HF5.out,by simp;omega,by omega,by omega,by rw[HEQ.out];exact listT_ok HQ2.out.out HQ3.out.out⟩
     case measure=>rw[HI5.out.tokLen,HI2.out.tokLen];omega
    ·go_wp2_with fail
     refine⟨rfl,RP.bad ?_ ((HF.out.trans hfa.out).trans hf3) hi3⟩
     rw[HEQ.out]
     exact listT_bad HQ2.out.out hq3.out
   ·clear hp
    have HQ2:=hid hq
    have HI3:=hid hi2
    have HF3:=hid (((HF.out).alloc (.cells #[Value.string ⟨#[44]⟩] 9)).trans hf2)
    have HL3:=hid ((HL.out.keep (X:=[]) ((Fr.refl _ _).alloc (.cells #[Value.string ⟨#[44]⟩] 9)) (by simp)).keep hf2 (by simpa using H.out.lt.1))
    clear hq hf2 hi2
    go_wp2_with fail
    go_ret
    exact RP.ok (by rw[HEQ.out];exact listT_no HQ2.out.out) HF3.out HI3.out HL3.out.row
 ·go_wp2_with fail
  exact⟨rfl,RP.bad (by simp only[Px.list,Px.Rd.bind,hq.out]) hf hi1⟩
set_option maxRecDepth 100000 in
set_option maxHeartbeats 1600000 in
theorem list_str (c:Ctx) (F m:Nat) (read:Px.Rd Txt) (hE:Enters F) (hr:Reads c F m (okStr) read) (hs:Shr read) (ts:List Tk) (w:World) (h:Inv c ts w) (hm:ts.length<m) :
  Calls Tryz.prog 107 #[.pointer (some ⟨c.R,0,none⟩),.func (.func F) #[.pointer (some ⟨c.R,0,none⟩)] #[]] w (RP c w (okRow 9 1 strQ) (Px.list read ts)):=by
 obtain⟨i0,hi,hz0,hz1,hz2⟩:=info_parts info_str
 have hE':∀ (args:Array Value) (w:World),(callFunc F args).run Tryz.prog w=.ok (.enter F args) w:=hE
 have HR:=hid (hr ts w h hm)
 have HRR:Hid (Reads c F m (okStr) read):=hid hr
 have HSH:=hid hs
 have H:=hid h
 have HI:=hid hi
 clear hr hs h hi
 go_enter Tryz.func107,Tryz.ntmps107
 go_wp2_with fail
 refine HR.out.mono ?_
 rintro e w1 hp
 rcases hp.cases with ⟨a,ts1,v,hq,hf,hi1,rfl,hv⟩|⟨ts1,hq,hf,hi1,rfl⟩
 ·obtain rfl:=hv
  have hrep:Rep w1 (fun k=>w.heap.size≤k) (strQ a) [.string ⟨a.toArray⟩]:=by unfold strQ;rw[rep_str];exact⟨[],rfl,rep_nil.2 rfl⟩
  clear hp
  go_wp2_with fail
  have hB0:=hf.size
  have hL1:ListAt (w1.alloc (.cells #[.string ⟨a.toArray⟩] 9)) w.heap.size 9 1 1 (strQ a) (.slice (some ⟨w1.heap.size,0,none⟩) 1 1) :=
   ListAt.one hB0 (alloc_new _ _) rfl (hrep.mono (fun k hk hl=>⟨⟨hk,by omega⟩,Below.heap_alloc _ _ _ hl⟩))
  have HQ:=hid hq
  have HL1:=hid hL1
  have HF1:=hid (hf.alloc (.cells #[.string ⟨a.toArray⟩] 9))
  have HI1:=hid (hi1.alloc (.cells #[.string ⟨a.toArray⟩] 9))
  have HS1:ts1.length≤ts.length:=HSH.out.ok hq.out
  have HLEN:ts.length≤6000:=H.out.few
  clear hL1 hq hrep hf hi1
  go_loopw [5] (fun v wr=>∃ (acc:List Txt) (ts':List Tk) (k:Nat),ListAt wr w.heap.size 9 1 acc.length (rowsQ strQ acc) v∧Inv c ts' wr∧Fr [c.R] w wr∧acc.length+ts'.length≤ts.length+1∧ts'.length<k∧ts'.length≤ts.length∧Px.list read ts=Px.listT read k acc ts') (fun _ wr=>tokLen c wr)
  case atStart =>
   refine⟨[a],ts1,ts.length+1,by rw[rowsQ_one];exact HL1.out,HI1.out,HF1.out,by simp;omega,by omega,HS1,?_⟩
   simp only[Px.list,Px.Rd.bind,HQ.out.out]
  case round =>
   obtain⟨acc,ts',k,hL,hi,hf,hn,hk,hle,heq⟩:=hrel
   cases k with
   | zero=>omega
   | succ k =>
   have HEQ:=hid heq
   have HL:=hid hL
   have HI2:=hid hi
   have HF:=hid hf
   clear heq hL hi hf
   go_wp2_with fail
   refine(accept_any c ts' [[44]] _ _ 1 (HI2.out.alloc _) rfl (Blk.new _ _ _) rfl (by decide)).mono ?_
   rintro e w2 hp
   rcases hp.accept with ⟨hq,_,hf2,hi2,rfl⟩|⟨hq,hf2,hi2,rfl⟩
   ·have hlt:=accept_pos hq.out rfl
    clear hp
    have hfa:=hid (((Fr.refl [c.R] wr).alloc (.cells #[Value.string ⟨#[44]⟩] 9)).trans hf2)
    have HQ2:=hid hq
    have HI3:=hid hi2
    have hb2:=(hf2.size)
    simp only[World.size_alloc] at hb2
    clear hq hf2 hi2
    go_wp2_with fail
    refine(HRR.out ts'.tail w2 HI3.out (by omega)).mono ?_
    rintro e w3 hp
    rcases hp.cases with ⟨b,ts3,v3,hq3,hf3,hi3,rfl,hv3⟩|⟨ts3,hq3,hf3,hi3,rfl⟩
    ·obtain rfl:=hv3
     have hrep:Rep w3 (fun k=>w2.heap.size≤k) (strQ b) [.string ⟨b.toArray⟩]:=by unfold strQ;rw[rep_str];exact⟨[],rfl,rep_nil.2 rfl⟩
     clear hp
     obtain⟨g1,g2,g3,g4⟩:=append_ready (news:=[.string ⟨b.toArray⟩]) HL.out (by omega) (hfa.out.trans hf3) H.out.lt.1 HF.out.size hrep 9
     have G1:=hid g1
     have G2:=hid g2
     have G3:=hid g3
     have HQ3:=hid hq3
     have HF3:=hid hf3
     have HI4:=hid hi3
     have hle3:=HSH.out.ok hq3.out
     clear g1 g2 g3 hq3 hf3 hi3 hrep
     go_wp2_with (at_builtin;refine wpList_append_list _ rfl _ _ 23 rfl w.heap.size 9 i0 _ 1 16 Tryz.underlying23 HI.out hz0 hz1 hz2 rfl (by decide) _ acc.length 1 (rowsQ strQ acc) (strQ b) rfl G1.out ⟨w3.heap.size,0,none⟩ 1 [.string ⟨b.toArray⟩] rfl (by decide) rfl G2.out G3.out ?c1 (by decide) g4 ?_)
     case c1=>omega
     intro v' w4 hL4 hg4
     have hown:∀ k,u5.ownBlock=some k→w.heap.size≤k:=fun k e=>(HL.out.own k e).1
     have hI4:=(HI4.out.alloc (.cells #[.string ⟨b.toArray⟩] 9)).grown H.out hg4 hown
     have hF4:=(((HF.out.trans hfa.out).trans HF3.out).alloc (.cells #[.string ⟨b.toArray⟩] 9)).grown hg4 hown
     have HI5:=hid hI4
     have HF5:=hid hF4
     have HL5:=hid hL4
     clear hI4 hF4 hL4 hg4 hown
     go_wp2_with fail
     go_roundw
     case rel=>exact⟨acc ++ [b],_,k,by rw[List.length_append,rowsQ_snoc];exact HL5.out,HI5.out,HF5.out,by simp;omega,by omega,by omega,by rw[HEQ.out];exact listT_ok HQ2.out.out HQ3.out.out⟩
     case measure=>rw[HI5.out.tokLen,HI2.out.tokLen];omega
    ·go_wp2_with fail
     refine⟨rfl,RP.bad ?_ ((HF.out.trans hfa.out).trans hf3) hi3⟩
     rw[HEQ.out]
     exact listT_bad HQ2.out.out hq3.out
   ·clear hp
    have HQ2:=hid hq
    have HI3:=hid hi2
    have HF3:=hid (((HF.out).alloc (.cells #[Value.string ⟨#[44]⟩] 9)).trans hf2)
    have HL3:=hid ((HL.out.keep (X:=[]) ((Fr.refl _ _).alloc (.cells #[Value.string ⟨#[44]⟩] 9)) (by simp)).keep hf2 (by simpa using H.out.lt.1))
    clear hq hf2 hi2
    go_wp2_with fail
    go_ret
    exact RP.ok (by rw[HEQ.out];exact listT_no HQ2.out.out) HF3.out HI3.out HL3.out.row
 ·go_wp2_with fail
  exact⟨rfl,RP.bad (by simp only[Px.list,Px.Rd.bind,hq.out]) hf hi1⟩
set_option maxRecDepth 100000 in
set_option maxHeartbeats 800000 in
theorem opt_ty (c:Ctx) (F m:Nat) (read:Px.Rd TyE) (hE:Enters F) (hr:Reads c F m (okAgg typeQ) read) (hs:Shr read) (o cl:Txt) (ho:o≠[]) (hcl:cl≠[]) (ts:List Tk) (w:World) (h:Inv c ts w) (hm:ts.length<m) :
  Calls Tryz.prog 102 #[.pointer (some ⟨c.R,0,none⟩),.string ⟨o.toArray⟩,.func (.func F) #[.pointer (some ⟨c.R,0,none⟩)] #[],.string ⟨cl.toArray⟩] w (RP c w (okRow 39 3 typeQ) (Px.optionalList o read cl ts)):=by
 have HR:Hid (∀ (ts:List Tk) (w:World),Inv c ts w→ts.length<m→_):=hid (fun ts w h hm=>list_ty c F m read hE hr hs ts w h hm)
 have HO:Hid (([o]:List Txt).contains []=false):=hid (by simpa using ho)
 have HC:Hid (([cl]:List Txt).contains []=false):=hid (by simpa using hcl)
 have H:=hid h
 clear hr hs h ho hcl hE
 go_enter Tryz.func102,Tryz.ntmps102
 go_wp2_with fail
 refine(accept_any c ts [o] _ _ 1 (H.out.alloc _) rfl (Blk.new _ _ _) HO.out (by simp)).mono ?_
 rintro e w1 hp
 rcases hp.accept with ⟨hq,_,hf1,hi1,rfl⟩|⟨hq,hf1,hi1,rfl⟩
 ·have hlt:=accept_pos hq.out HO.out
  clear hp
  have HQ:=hid hq
  have HF1:=hid (((Fr.refl [c.R] w).alloc (.cells #[Value.string ⟨o.toArray⟩] 9)).trans hf1)
  have HI1:=hid hi1
  have hz1:=hf1.size
  simp only[World.size_alloc] at hz1
  clear hq hf1 hi1
  go_wp2_with fail
  refine(HR.out ts.tail w1 HI1.out (by omega)).mono ?_
  rintro e w2 hp
  rcases hp.cases with ⟨l,ts2,v,hq2,hf2,hi2,rfl,hv⟩|⟨ts2,hq2,hf2,hi2,rfl⟩
  ·clear hp
   have HQ2:=hid hq2
   have HF2:=hid (HF1.out.trans hf2)
   have HI2:=hid hi2
   have HV:=hid hv
   clear hq2 hf2 hi2 hv
   go_wp2_with fail
   refine(expect_any c ts2 [cl] _ _ 1 (HI2.out.alloc _) rfl (Blk.new _ _ _) HC.out (by simp)).mono ?_
   rintro e w3 hp
   rcases hp.cases with ⟨x,ts3,v3,hq3,hf3,hi3,rfl,hv3⟩|⟨ts3,hq3,hf3,hi3,rfl⟩
   ·clear hp
    obtain rfl:=hv3
    have HQ3:=hid hq3
    have HF3:=hid ((HF2.out.alloc (.cells #[Value.string ⟨cl.toArray⟩] 9)).trans hf3)
    have HI3:=hid hi3
    have HV3:=hid (keep_row HV.out (by omega) (((Fr.refl [c.R] w2).alloc (.cells #[Value.string ⟨cl.toArray⟩] 9)).trans hf3) H.out.lt.1)
    clear hq3 hf3 hi3
    go_wp2_with fail
    go_ret
    exact RP.ok (by simp only[Px.optionalList,bind,Px.Rd.bind,HQ.out.out,if_true,HQ2.out.out,HQ3.out.out];rfl) HF3.out HI3.out HV3.out
   ·go_wp2_with fail
    exact⟨rfl,RP.bad (by simp only[Px.optionalList,bind,Px.Rd.bind,HQ.out.out,if_true,HQ2.out.out,hq3.out]) ((HF2.out.alloc _).trans hf3) hi3⟩
  ·go_wp2_with fail
   exact⟨rfl,RP.bad (by simp only[Px.optionalList,bind,Px.Rd.bind,HQ.out.out,if_true,hq2.out]) (HF1.out.trans hf2) hi2⟩
 ·go_wp2_with fail
  go_ret
  exact RP.ok (a:=[]) (v:=.slice none 0 0) (by simp only[Px.optionalList,bind,Px.Rd.bind,hq.out,Bool.false_eq_true,if_false];rfl) (((Fr.refl [c.R] w).alloc _).trans hf1) hi1 (okRow_nil _ _ _ _ _)
set_option maxRecDepth 100000 in
set_option maxHeartbeats 800000 in
theorem opt_str (c:Ctx) (F m:Nat) (read:Px.Rd Txt) (hE:Enters F) (hr:Reads c F m (okStr) read) (hs:Shr read) (o cl:Txt) (ho:o≠[]) (hcl:cl≠[]) (ts:List Tk) (w:World) (h:Inv c ts w) (hm:ts.length<m) :
  Calls Tryz.prog 106 #[.pointer (some ⟨c.R,0,none⟩),.string ⟨o.toArray⟩,.func (.func F) #[.pointer (some ⟨c.R,0,none⟩)] #[],.string ⟨cl.toArray⟩] w (RP c w (okRow 9 1 strQ) (Px.optionalList o read cl ts)):=by
 have HR:Hid (∀ (ts:List Tk) (w:World),Inv c ts w→ts.length<m→_):=hid (fun ts w h hm=>list_str c F m read hE hr hs ts w h hm)
 have HO:Hid (([o]:List Txt).contains []=false):=hid (by simpa using ho)
 have HC:Hid (([cl]:List Txt).contains []=false):=hid (by simpa using hcl)
 have H:=hid h
 clear hr hs h ho hcl hE
 go_enter Tryz.func106,Tryz.ntmps106
 go_wp2_with fail
 refine(accept_any c ts [o] _ _ 1 (H.out.alloc _) rfl (Blk.new _ _ _) HO.out (by simp)).mono ?_
 rintro e w1 hp
 rcases hp.accept with ⟨hq,_,hf1,hi1,rfl⟩|⟨hq,hf1,hi1,rfl⟩
 ·have hlt:=accept_pos hq.out HO.out
  clear hp
  have HQ:=hid hq
  have HF1:=hid (((Fr.refl [c.R] w).alloc (.cells #[Value.string ⟨o.toArray⟩] 9)).trans hf1)
  have HI1:=hid hi1
  have hz1:=hf1.size
  simp only[World.size_alloc] at hz1
  clear hq hf1 hi1
  go_wp2_with fail
  refine(HR.out ts.tail w1 HI1.out (by omega)).mono ?_
  rintro e w2 hp
  rcases hp.cases with ⟨l,ts2,v,hq2,hf2,hi2,rfl,hv⟩|⟨ts2,hq2,hf2,hi2,rfl⟩
  ·clear hp
   have HQ2:=hid hq2
   have HF2:=hid (HF1.out.trans hf2)
   have HI2:=hid hi2
   have HV:=hid hv
   clear hq2 hf2 hi2 hv
   go_wp2_with fail
   refine(expect_any c ts2 [cl] _ _ 1 (HI2.out.alloc _) rfl (Blk.new _ _ _) HC.out (by simp)).mono ?_
   rintro e w3 hp
   rcases hp.cases with ⟨x,ts3,v3,hq3,hf3,hi3,rfl,hv3⟩|⟨ts3,hq3,hf3,hi3,rfl⟩
   ·clear hp
    obtain rfl:=hv3
    have HQ3:=hid hq3
    have HF3:=hid ((HF2.out.alloc (.cells #[Value.string ⟨cl.toArray⟩] 9)).trans hf3)
    have HI3:=hid hi3
    have HV3:=hid (keep_row HV.out (by omega) (((Fr.refl [c.R] w2).alloc (.cells #[Value.string ⟨cl.toArray⟩] 9)).trans hf3) H.out.lt.1)
    clear hq3 hf3 hi3
    go_wp2_with fail
    go_ret
    exact RP.ok (by simp only[Px.optionalList,bind,Px.Rd.bind,HQ.out.out,if_true,HQ2.out.out,HQ3.out.out];rfl) HF3.out HI3.out HV3.out
   ·go_wp2_with fail
    exact⟨rfl,RP.bad (by simp only[Px.optionalList,bind,Px.Rd.bind,HQ.out.out,if_true,HQ2.out.out,hq3.out]) ((HF2.out.alloc _).trans hf3) hi3⟩
  ·go_wp2_with fail
   exact⟨rfl,RP.bad (by simp only[Px.optionalList,bind,Px.Rd.bind,HQ.out.out,if_true,hq2.out]) (HF1.out.trans hf2) hi2⟩
 ·go_wp2_with fail
  go_ret
  exact RP.ok (a:=[]) (v:=.slice none 0 0) (by simp only[Px.optionalList,bind,Px.Rd.bind,hq.out,Bool.false_eq_true,if_false];rfl) (((Fr.refl [c.R] w).alloc _).trans hf1) hi1 (okRow_nil _ _ _ _ _)
set_option maxRecDepth 100000 in
set_option maxHeartbeats 800000 in
theorem pos_arg (c:Ctx) (F m:Nat) (read:Px.Rd ArgD) (hE:Enters F) (hr:Reads c F m (okAgg argQ) read) (hs:Shr read) (o cl:Txt) (ho:o≠[]) (hcl:cl≠[]) (ts:List Tk) (w:World) (h:Inv c ts w) (hm:ts.length<m) :
  Calls Tryz.prog 108 #[.pointer (some ⟨c.R,0,none⟩),.string ⟨o.toArray⟩,.func (.func F) #[.pointer (some ⟨c.R,0,none⟩)] #[],.string ⟨cl.toArray⟩] w (RP c w (okRow 155 6 argQ) (Px.possiblyEmptyList o read cl ts)):=by
 have HR:Hid (∀ (ts:List Tk) (w:World),Inv c ts w→ts.length<m→_):=hid (fun ts w h hm=>list_arg c F m read hE hr hs ts w h hm)
 have HO:Hid (([o]:List Txt).contains []=false):=hid (by simpa using ho)
 have HC:Hid (([cl]:List Txt).contains []=false):=hid (by simpa using hcl)
 have H:=hid h
 clear hr hs h ho hcl hE
 go_enter Tryz.func108,Tryz.ntmps108
 go_wp2_with fail
 refine(expect_any c ts [o] _ _ 1 (H.out.alloc _) rfl (Blk.new _ _ _) HO.out (by simp)).mono ?_
 rintro e w0 hp
 rcases hp.cases with ⟨x0,ts0,v0,hq0,hf0,hi0,rfl,hv0⟩|⟨ts0,hq0,hf0,hi0,rfl⟩
 ·clear hp
  obtain rfl:=hv0
  have HQ0:=hid hq0
  have HF0:=hid (((Fr.refl [c.R] w).alloc (.cells #[Value.string ⟨o.toArray⟩] 9)).trans hf0)
  have HI0:=hid hi0
  have hle0:=expect_shr hq0.out
  have hz0:=hf0.size
  simp only[World.size_alloc] at hz0
  clear hq0 hf0 hi0
  go_wp2_with fail
  refine(accept_any c ts0 [cl] _ _ 1 (HI0.out.alloc _) rfl (Blk.new _ _ _) HC.out (by simp)).mono ?_
  rintro e w1 hp
  rcases hp.accept with ⟨hq,_,hf1,hi1,rfl⟩|⟨hq,hf1,hi1,rfl⟩
  ·go_wp2_with fail
   go_ret
   exact RP.ok (a:=[]) (v:=.slice none 0 0) (by simp only[Px.possiblyEmptyList,bind,Px.Rd.bind,HQ0.out.out,hq.out,if_true];rfl) ((HF0.out.alloc _).trans hf1) hi1 (okRow_nil _ _ _ _ _)
  ·clear hp
   have HQ:=hid hq
   have HF1:=hid ((HF0.out.alloc (.cells #[Value.string ⟨cl.toArray⟩] 9)).trans hf1)
   have HI1:=hid hi1
   have hz1:=hf1.size
   simp only[World.size_alloc] at hz1
   clear hq hf1 hi1
   go_wp2_with fail
   refine(HR.out ts0 w1 HI1.out (by omega)).mono ?_
   rintro e w2 hp
   rcases hp.cases with ⟨l,ts2,v,hq2,hf2,hi2,rfl,hv⟩|⟨ts2,hq2,hf2,hi2,rfl⟩
   ·clear hp
    have HQ2:=hid hq2
    have HF2:=hid (HF1.out.trans hf2)
    have HI2:=hid hi2
    have HV:=hid hv
    clear hq2 hf2 hi2 hv
    go_wp2_with fail
    refine(expect_any c ts2 [cl] _ _ 1 (HI2.out.alloc _) rfl (Blk.new _ _ _) HC.out (by simp)).mono ?_
    rintro e w3 hp
    rcases hp.cases with ⟨x,ts3,v3,hq3,hf3,hi3,rfl,hv3⟩|⟨ts3,hq3,hf3,hi3,rfl⟩
    ·clear hp
     obtain rfl:=hv3
     have HQ3:=hid hq3
     have HF3:=hid ((HF2.out.alloc (.cells #[Value.string ⟨cl.toArray⟩] 9)).trans hf3)
     have HI3:=hid hi3
     have HV3:=hid (keep_row HV.out (by omega) (((Fr.refl [c.R] w2).alloc (.cells #[Value.string ⟨cl.toArray⟩] 9)).trans hf3) H.out.lt.1)
     clear hq3 hf3 hi3
     go_wp2_with fail
     go_ret
     exact RP.ok (by simp only[Px.possiblyEmptyList,bind,Px.Rd.bind,HQ0.out.out,HQ.out.out,Bool.false_eq_true,if_false,HQ2.out.out,HQ3.out.out];rfl) HF3.out HI3.out HV3.out
    ·go_wp2_with fail
     exact⟨rfl,RP.bad (by simp only[Px.possiblyEmptyList,bind,Px.Rd.bind,HQ0.out.out,HQ.out.out,Bool.false_eq_true,if_false,HQ2.out.out,hq3.out]) ((HF2.out.alloc _).trans hf3) hi3⟩
   ·go_wp2_with fail
    exact⟨rfl,RP.bad (by simp only[Px.possiblyEmptyList,bind,Px.Rd.bind,HQ0.out.out,HQ.out.out,Bool.false_eq_true,if_false,hq2.out]) (HF1.out.trans hf2) hi2⟩
 ·go_wp2_with fail
  exact⟨rfl,RP.bad (by simp only[Px.possiblyEmptyList,bind,Px.Rd.bind,hq0.out]) (((Fr.refl [c.R] w).alloc _).trans hf0) hi0⟩
set_option maxRecDepth 100000 in
set_option maxHeartbeats 800000 in
theorem pos_str (c:Ctx) (F m:Nat) (read:Px.Rd Txt) (hE:Enters F) (hr:Reads c F m (okStr) read) (hs:Shr read) (o cl:Txt) (ho:o≠[]) (hcl:cl≠[]) (ts:List Tk) (w:World) (h:Inv c ts w) (hm:ts.length<m) :
  Calls Tryz.prog 82 #[.pointer (some ⟨c.R,0,none⟩),.string ⟨o.toArray⟩,.func (.func F) #[.pointer (some ⟨c.R,0,none⟩)] #[],.string ⟨cl.toArray⟩] w (RP c w (okRow 9 1 strQ) (Px.possiblyEmptyList o read cl ts)):=by
 have HR:Hid (∀ (ts:List Tk) (w:World),Inv c ts w→ts.length<m→_):=hid (fun ts w h hm=>list_str c F m read hE hr hs ts w h hm)
 have HO:Hid (([o]:List Txt).contains []=false):=hid (by simpa using ho)
 have HC:Hid (([cl]:List Txt).contains []=false):=hid (by simpa using hcl)
 have H:=hid h
 clear hr hs h ho hcl hE
 go_enter Tryz.func82,Tryz.ntmps82
 go_wp2_with fail
 refine(expect_any c ts [o] _ _ 1 (H.out.alloc _) rfl (Blk.new _ _ _) HO.out (by simp)).mono ?_
 rintro e w0 hp
 rcases hp.cases with ⟨x0,ts0,v0,hq0,hf0,hi0,rfl,hv0⟩|⟨ts0,hq0,hf0,hi0,rfl⟩
 ·clear hp
  obtain rfl:=hv0
  have HQ0:=hid hq0
  have HF0:=hid (((Fr.refl [c.R] w).alloc (.cells #[Value.string ⟨o.toArray⟩] 9)).trans hf0)
  have HI0:=hid hi0
  have hle0:=expect_shr hq0.out
  have hz0:=hf0.size
  simp only[World.size_alloc] at hz0
  clear hq0 hf0 hi0
  go_wp2_with fail
  refine(accept_any c ts0 [cl] _ _ 1 (HI0.out.alloc _) rfl (Blk.new _ _ _) HC.out (by simp)).mono ?_
  rintro e w1 hp
  rcases hp.accept with ⟨hq,_,hf1,hi1,rfl⟩|⟨hq,hf1,hi1,rfl⟩
  ·go_wp2_with fail
   go_ret
   exact RP.ok (a:=[]) (v:=.slice none 0 0) (by simp only[Px.possiblyEmptyList,bind,Px.Rd.bind,HQ0.out.out,hq.out,if_true];rfl) ((HF0.out.alloc _).trans hf1) hi1 (okRow_nil _ _ _ _ _)
  ·clear hp
   have HQ:=hid hq
   have HF1:=hid ((HF0.out.alloc (.cells #[Value.string ⟨cl.toArray⟩] 9)).trans hf1)
   have HI1:=hid hi1
   have hz1:=hf1.size
   simp only[World.size_alloc] at hz1
   clear hq hf1 hi1
   go_wp2_with fail
   refine(HR.out ts0 w1 HI1.out (by omega)).mono ?_
   rintro e w2 hp
   rcases hp.cases with ⟨l,ts2,v,hq2,hf2,hi2,rfl,hv⟩|⟨ts2,hq2,hf2,hi2,rfl⟩
   ·clear hp
    have HQ2:=hid hq2
    have HF2:=hid (HF1.out.trans hf2)
    have HI2:=hid hi2
    have HV:=hid hv
    clear hq2 hf2 hi2 hv
    go_wp2_with fail
    refine(expect_any c ts2 [cl] _ _ 1 (HI2.out.alloc _) rfl (Blk.new _ _ _) HC.out (by simp)).mono ?_
    rintro e w3 hp
    rcases hp.cases with ⟨x,ts3,v3,hq3,hf3,hi3,rfl,hv3⟩|⟨ts3,hq3,hf3,hi3,rfl⟩
    ·clear hp
     obtain rfl:=hv3
     have HQ3:=hid hq3
     have HF3:=hid ((HF2.out.alloc (.cells #[Value.string ⟨cl.toArray⟩] 9)).trans hf3)
     have HI3:=hid hi3
     have HV3:=hid (keep_row HV.out (by omega) (((Fr.refl [c.R] w2).alloc (.cells #[Value.string ⟨cl.toArray⟩] 9)).trans hf3) H.out.lt.1)
     clear hq3 hf3 hi3
     go_wp2_with fail
     go_ret
     exact RP.ok (by simp only[Px.possiblyEmptyList,bind,Px.Rd.bind,HQ0.out.out,HQ.out.out,Bool.false_eq_true,if_false,HQ2.out.out,HQ3.out.out];rfl) HF3.out HI3.out HV3.out
    ·go_wp2_with fail
     exact⟨rfl,RP.bad (by simp only[Px.possiblyEmptyList,bind,Px.Rd.bind,HQ0.out.out,HQ.out.out,Bool.false_eq_true,if_false,HQ2.out.out,hq3.out]) ((HF2.out.alloc _).trans hf3) hi3⟩
   ·go_wp2_with fail
    exact⟨rfl,RP.bad (by simp only[Px.possiblyEmptyList,bind,Px.Rd.bind,HQ0.out.out,HQ.out.out,Bool.false_eq_true,if_false,hq2.out]) (HF1.out.trans hf2) hi2⟩
 ·go_wp2_with fail
  exact⟨rfl,RP.bad (by simp only[Px.possiblyEmptyList,bind,Px.Rd.bind,hq0.out]) (((Fr.refl [c.R] w).alloc _).trans hf0) hi0⟩
set_option maxRecDepth 100000 in
set_option maxHeartbeats 1600000 in
theorem until_stmt (c:Ctx) (F m:Nat) (read:Px.Rd StmtD) (hE:Enters F) (hr:Reads c F m (okAgg stmtQ) read) (hs:Strict read) (ts:List Tk) (w:World) (h:Inv c ts w) (hm:ts.length<m) :
  Calls Tryz.prog 104 #[.pointer (some ⟨c.R,0,none⟩),.func (.func F) #[.pointer (some ⟨c.R,0,none⟩)] #[]] w (RP c w (okRow 52 17 stmtQ) (Px.untilBrace read ts)):=by
 obtain⟨i0,hi,hz0,hz1,hz2⟩:=info_parts info_stmt
 have hE':∀ (args:Array Value) (w:World),(callFunc F args).run Tryz.prog w=.ok (.enter F args) w:=hE
 have HRR:Hid (Reads c F m (okAgg stmtQ) read):=hid hr
 have HSH:=hid hs
 have H:=hid h
 have HI:=hid hi
 have HLEN:ts.length≤6000:=H.out.few
 clear hr hs h hi
 go_enter Tryz.func104,Tryz.ntmps104
 go_wp2_with fail
 go_loopw [5] (fun v wr=>∃ (acc:List StmtD) (ts':List Tk) (k:Nat),ListAt wr w.heap.size 52 17 acc.length (rowsQ stmtQ acc) v∧Inv c ts' wr∧Fr [c.R] w wr∧acc.length+ts'.length≤ts.length∧ts'.length<k∧ts'.length≤ts.length∧Px.untilBrace read ts=Px.untilT read k acc ts') (fun _ wr=>tokLen c wr)
 case atStart=>exact⟨[],ts,ts.length+1,.inl ⟨rfl,rfl,rfl⟩,H.out,Fr.refl _ _,by simp,by omega,Nat.le_refl _,rfl⟩
 case round =>
  obtain⟨acc,ts',k,hL,hi,hf,hn,hk,hle,heq⟩:=hrel
  cases k with
  | zero=>omega
  | succ k =>
  have HEQ:=hid heq
  have HL:=hid hL
  have HI2:=hid hi
  have HF:=hid hf
  clear heq hL hi hf
  go_wp2_with fail
  refine(accept_any c ts' [[125]] _ _ 1 (HI2.out.alloc _) rfl (Blk.new _ _ _) rfl (by decide)).mono ?_
  rintro e w2 hp
  rcases hp.accept with ⟨hq,_,hf2,hi2,rfl⟩|⟨hq,hf2,hi2,rfl⟩
  ·clear hp
   have HQ2:=hid hq
   have HI3:=hid hi2
   have HF3:=hid (((HF.out).alloc (.cells #[Value.string ⟨#[125]⟩] 9)).trans hf2)
   have HL3:=hid ((HL.out.keep (X:=[]) ((Fr.refl _ _).alloc (.cells #[Value.string ⟨#[125]⟩] 9)) (by simp)).keep hf2 (by simpa using H.out.lt.1))
   clear hq hf2 hi2
   go_wp2_with fail
   go_ret
   exact RP.ok (by rw[HEQ.out];exact untilT_no HQ2.out.out) HF3.out HI3.out HL3.out.row
  ·clear hp
   have hfa:=hid (((Fr.refl [c.R] wr).alloc (.cells #[Value.string ⟨#[125]⟩] 9)).trans hf2)
   have HQ2:=hid hq
   have HI3:=hid hi2
   have hb2:=(hf2.size)
   simp only[World.size_alloc] at hb2
   clear hq hf2 hi2
   go_wp2_with fail
   refine(HRR.out ts' w2 HI3.out (by omega)).mono ?_
   rintro e w3 hp
   rcases hp.cases with ⟨b,ts3,v3,hq3,hf3,hi3,rfl,hv3⟩|⟨ts3,hq3,hf3,hi3,rfl⟩
   ·obtain⟨cs,rfl,hrep⟩:=hv3
    obtain⟨y1,y2,y3,y4,y5,y6,y7,y8,y9,y10,y11,y12,y13,y14,y15,y16,y17,rfl⟩:=cells_17 (hrep.len.trans (len_stmtQ b))
    clear hp
    obtain⟨g1,g2,g3,g4⟩:=append_ready (news:=[y1,y2,y3,y4,y5,y6,y7,y8,y9,y10,y11,y12,y13,y14,y15,y16,y17]) HL.out (by omega) (hfa.out.trans hf3) H.out.lt.1 HF.out.size hrep 52
    have G1:=hid g1
    have G2:=hid g2
    have G3:=hid g3
    have HQ3:=hid hq3
    have HF3:=hid hf3
    have HI4:=hid hi3
    have hle3:=HSH.out _ _ _ hq3.out
    clear g1 g2 g3 hq3 hf3 hi3 hrep
    go_wp2_with (at_builtin;refine wpList_append_list _ rfl _ _ 40 rfl w.heap.size 52 i0 _ 17 296 Tryz.underlying40 HI.out hz0 hz1 hz2 rfl (by decide) _ acc.length 1 (rowsQ stmtQ acc) (stmtQ b) rfl G1.out ⟨w3.heap.size,0,none⟩ 1 [y1,y2,y3,y4,y5,y6,y7,y8,y9,y10,y11,y12,y13,y14,y15,y16,y17] rfl (by decide) rfl G2.out G3.out ?c1 (by decide) g4 ?_)
    case c1=>omega
    intro v' w4 hL4 hg4
    have hown:∀ k,u5.ownBlock=some k→w.heap.size≤k:=fun k e=>(HL.out.own k e).1
    have hI4:=(HI4.out.alloc (.cells #[y1,y2,y3,y4,y5,y6,y7,y8,y9,y10,y11,y12,y13,y14,y15,y16,y17] 52)).grown H.out hg4 hown
    have hF4:=(((HF.out.trans hfa.out).trans HF3.out).alloc (.cells #[y1,y2,y3,y4,y5,y6,y7,y8,y9,y10,y11,y12,y13,y14,y15,y16,y17] 52)).grown hg4 hown
    have HI5:=hid hI4
    have HF5:=hid hF4
    have HL5:=hid hL4
    clear hI4 hF4 hL4 hg4 hown
    go_wp2_with fail
    go_roundw
    case rel=>exact⟨acc ++ [b],_,k,by rw[List.length_append,rowsQ_snoc];exact HL5.out,HI5.out,HF5.out,by simp;omega,by omega,by omega,by rw[HEQ.out];exact untilT_ok HQ2.out.out HQ3.out.out⟩
    case measure=>rw[HI5.out.tokLen,HI2.out.tokLen];omega
   ·go_wp2_with fail
    refine⟨rfl,RP.bad ?_ ((HF.out.trans hfa.out).trans hf3) hi3⟩
    rw[HEQ.out]
    exact untilT_bad HQ2.out.out hq3.out
set_option maxRecDepth 100000 in
set_option maxHeartbeats 1600000 in
theorem until_arm (c:Ctx) (F m:Nat) (read:Px.Rd ArmD) (hE:Enters F) (hr:Reads c F m (okAgg armQ) read) (hs:Strict read) (ts:List Tk) (w:World) (h:Inv c ts w) (hm:ts.length<m) :
  Calls Tryz.prog 81 #[.pointer (some ⟨c.R,0,none⟩),.func (.func F) #[.pointer (some ⟨c.R,0,none⟩)] #[]] w (RP c w (okRow 138 4 armQ) (Px.untilBrace read ts)):=by
 obtain⟨i0,hi,hz0,hz1,hz2⟩:=info_parts info_arm
 have hE':∀ (args:Array Value) (w:World),(callFunc F args).run Tryz.prog w=.ok (.enter F args) w:=hE
 have HRR:Hid (Reads c F m (okAgg armQ) read):=hid hr
 have HSH:=hid hs
 have H:=hid h
 have HI:=hid hi
 have HLEN:ts.length≤6000:=H.out.few
 clear hr hs h hi
 go_enter Tryz.func81,Tryz.ntmps81
 go_wp2_with fail
 go_loopw [5] (fun v wr=>∃ (acc:List ArmD) (ts':List Tk) (k:Nat),ListAt wr w.heap.size 138 4 acc.length (rowsQ armQ acc) v∧Inv c ts' wr∧Fr [c.R] w wr∧acc.length+ts'.length≤ts.length∧ts'.length<k∧ts'.length≤ts.length∧Px.untilBrace read ts=Px.untilT read k acc ts') (fun _ wr=>tokLen c wr)
 case atStart=>exact⟨[],ts,ts.length+1,.inl ⟨rfl,rfl,rfl⟩,H.out,Fr.refl _ _,by simp,by omega,Nat.le_refl _,rfl⟩
 case round =>
  obtain⟨acc,ts',k,hL,hi,hf,hn,hk,hle,heq⟩:=hrel
  cases k with
  | zero=>omega
  | succ k =>
  have HEQ:=hid heq
  have HL:=hid hL
  have HI2:=hid hi
  have HF:=hid hf
  clear heq hL hi hf
  go_wp2_with fail
  refine(accept_any c ts' [[125]] _ _ 1 (HI2.out.alloc _) rfl (Blk.new _ _ _) rfl (by decide)).mono ?_
  rintro e w2 hp
  rcases hp.accept with ⟨hq,_,hf2,hi2,rfl⟩|⟨hq,hf2,hi2,rfl⟩
  ·clear hp
   have HQ2:=hid hq
   have HI3:=hid hi2
   have HF3:=hid (((HF.out).alloc (.cells #[Value.string ⟨#[125]⟩] 9)).trans hf2)
   have HL3:=hid ((HL.out.keep (X:=[]) ((Fr.refl _ _).alloc (.cells #[Value.string ⟨#[125]⟩] 9)) (by simp)).keep hf2 (by simpa using H.out.lt.1))
   clear hq hf2 hi2
   go_wp2_with fail
   go_ret
   exact RP.ok (by rw[HEQ.out];exact untilT_no HQ2.out.out) HF3.out HI3.out HL3.out.row
  ·clear hp
   have hfa:=hid (((Fr.refl [c.R] wr).alloc (.cells #[Value.string ⟨#[125]⟩] 9)).trans hf2)
   have HQ2:=hid hq
   have HI3:=hid hi2
   have hb2:=(hf2.size)
   simp only[World.size_alloc] at hb2
   clear hq hf2 hi2
   go_wp2_with fail
   refine(HRR.out ts' w2 HI3.out (by omega)).mono ?_
   rintro e w3 hp
   rcases hp.cases with ⟨b,ts3,v3,hq3,hf3,hi3,rfl,hv3⟩|⟨ts3,hq3,hf3,hi3,rfl⟩
   ·obtain⟨cs,rfl,hrep⟩:=hv3
    obtain⟨y1,y2,y3,y4,rfl⟩:=cells_4 (hrep.len.trans (len_armQ b))
    clear hp
    obtain⟨g1,g2,g3,g4⟩:=append_ready (news:=[y1,y2,y3,y4]) HL.out (by omega) (hfa.out.trans hf3) H.out.lt.1 HF.out.size hrep 138
    have G1:=hid g1
    have G2:=hid g2
    have G3:=hid g3
    have HQ3:=hid hq3
    have HF3:=hid hf3
    have HI4:=hid hi3
    have hle3:=HSH.out _ _ _ hq3.out
    clear g1 g2 g3 hq3 hf3 hi3 hrep
    go_wp2_with (at_builtin;refine wpList_append_list _ rfl _ _ 50 rfl w.heap.size 138 i0 _ 4 72 Tryz.underlying50 HI.out hz0 hz1 hz2 rfl (by decide) _ acc.length 1 (rowsQ armQ acc) (armQ b) rfl G1.out ⟨w3.heap.size,0,none⟩ 1 [y1,y2,y3,y4] rfl (by decide) rfl G2.out G3.out ?c1 (by decide) g4 ?_)
    case c1=>omega
    intro v' w4 hL4 hg4
    have hown:∀ k,u5.ownBlock=some k→w.heap.size≤k:=fun k e=>(HL.out.own k e).1
    have hI4:=(HI4.out.alloc (.cells #[y1,y2,y3,y4] 138)).grown H.out hg4 hown
    have hF4:=(((HF.out.trans hfa.out).trans HF3.out).alloc (.cells #[y1,y2,y3,y4] 138)).grown hg4 hown
    have HI5:=hid hI4
    have HF5:=hid hF4
    have HL5:=hid hL4
    clear hI4 hF4 hL4 hg4 hown
    go_wp2_with fail
    go_roundw
    case rel=>exact⟨acc ++ [b],_,k,by rw[List.length_append,rowsQ_snoc];exact HL5.out,HI5.out,HF5.out,by simp;omega,by omega,by omega,by rw[HEQ.out];exact untilT_ok HQ2.out.out HQ3.out.out⟩
    case measure=>rw[HI5.out.tokLen,HI2.out.tokLen];omega
   ·go_wp2_with fail
    refine⟨rfl,RP.bad ?_ ((HF.out.trans hfa.out).trans hf3) hi3⟩
    rw[HEQ.out]
    exact untilT_bad HQ2.out.out hq3.out
end Go.Proofs.YtghohohagbbajaaGreatDoor
