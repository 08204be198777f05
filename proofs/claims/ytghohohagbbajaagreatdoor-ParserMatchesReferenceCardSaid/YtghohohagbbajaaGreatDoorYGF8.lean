/- part of the proof -/
import Derived.Test.YtghohohagbbajaaGreatDoorYO
import Derived.Test.YtghohohagbbajaaGreatDoorYGC
set_option linter.unusedVariables false
set_option linter.unusedSimpArgs false
set_option linter.unusedSectionVars false
namespace Go.Proofs.YtghohohagbbajaaGreatDoor
open Go.RowKit Go.Lib
open Lx (Tk)
open Px (Txt TyE VarD DataD TraitD BoundD ImplD ArgD ExprD StmtD ArmD FuncD ModD)
theorem blk_expr {w:World} {b T:Nat} {a0 a1 a2 a3 a4 a5 a6 a7 a8 a9 a10 a11 a12 a13 a14 a15 a16:Value} (h:Blk w b T #[a0,a1,a2,a3,a4,a5,a6,a7,a8,a9,a10,a11,a12,a13,a14,a15,a16]) (v4 v5 v6 v7 v8 v9 v10 v11:Value) :
  Blk ((((((((w.setCell ⟨b,4,none⟩ v4).setCell ⟨b,5,none⟩ v5).setCell ⟨b,6,none⟩ v6).setCell ⟨b,7,none⟩ v7).setCell ⟨b,8,none⟩ v8).setCell ⟨b,9,none⟩ v9).setCell ⟨b,10,none⟩ v10).setCell ⟨b,11,none⟩ v11) b T #[a0,a1,a2,a3,v4,v5,v6,v7,v8,v9,v10,v11,a12,a13,a14,a15,a16]:=by
 have h0:Blk (w.setCell ⟨b,4,none⟩ v4) b T #[a0,a1,a2,a3,v4,a5,a6,a7,a8,a9,a10,a11,a12,a13,a14,a15,a16]:=Blk.set h 4 v4
 have h1:Blk ((w.setCell ⟨b,4,none⟩ v4).setCell ⟨b,5,none⟩ v5) b T #[a0,a1,a2,a3,v4,v5,a6,a7,a8,a9,a10,a11,a12,a13,a14,a15,a16]:=Blk.set h0 5 v5
 have h2:Blk (((w.setCell ⟨b,4,none⟩ v4).setCell ⟨b,5,none⟩ v5).setCell ⟨b,6,none⟩ v6) b T #[a0,a1,a2,a3,v4,v5,v6,a7,a8,a9,a10,a11,a12,a13,a14,a15,a16]:=Blk.set h1 6 v6
 have h3:Blk ((((w.setCell ⟨b,4,none⟩ v4).setCell ⟨b,5,none⟩ v5).setCell ⟨b,6,none⟩ v6).setCell ⟨b,7,none⟩ v7) b T #[a0,a1,a2,a3,v4,v5,v6,v7,a8,a9,a10,a11,a12,a13,a14,a15,a16]:=Blk.set h2 7 v7
 have h4:Blk (((((w.setCell ⟨b,4,none⟩ v4).setCell ⟨b,5,none⟩ v5).setCell ⟨b,6,none⟩ v6).setCell ⟨b,7,none⟩ v7).setCell ⟨b,8,none⟩ v8) b T #[a0,a1,a2,a3,v4,v5,v6,v7,v8,a9,a10,a11,a12,a13,a14,a15,a16]:=Blk.set h3 8 v8
 have h5:Blk ((((((w.setCell ⟨b,4,none⟩ v4).setCell ⟨b,5,none⟩ v5).setCell ⟨b,6,none⟩ v6).setCell ⟨b,7,none⟩ v7).setCell ⟨b,8,none⟩ v8).setCell ⟨b,9,none⟩ v9) b T #[a0,a1,a2,a3,v4,v5,v6,v7,v8,v9,a10,a11,a12,a13,a14,a15,a16]:=Blk.set h4 9 v9
 have h6:Blk (((((((w.setCell ⟨b,4,none⟩ v4).setCell ⟨b,5,none⟩ v5).setCell ⟨b,6,none⟩ v6).setCell ⟨b,7,none⟩ v7).setCell ⟨b,8,none⟩ v8).setCell ⟨b,9,none⟩ v9).setCell ⟨b,10,none⟩ v10) b T #[a0,a1,a2,a3,v4,v5,v6,v7,v8,v9,v10,a11,a12,a13,a14,a15,a16]:=Blk.set h5 10 v10
 have h7:Blk ((((((((w.setCell ⟨b,4,none⟩ v4).setCell ⟨b,5,none⟩ v5).setCell ⟨b,6,none⟩ v6).setCell ⟨b,7,none⟩ v7).setCell ⟨b,8,none⟩ v8).setCell ⟨b,9,none⟩ v9).setCell ⟨b,10,none⟩ v10).setCell ⟨b,11,none⟩ v11) b T #[a0,a1,a2,a3,v4,v5,v6,v7,v8,v9,v10,v11,a12,a13,a14,a15,a16]:=Blk.set h6 11 v11
 exact h7
set_option maxRecDepth 100000 in
set_option maxHeartbeats 1600000 in
theorem let_any (c:Ctx) (o:Nat) (ts:List Tk) (w:World) (h:Inv c ts w) (b:Nat) (hap:c.Apart b) (hD:Blk w b 52 #[.int .i64 1,.string ⟨#[]⟩,.slice none 0 0,.slice none 0 0,.int .i64 0,.string ⟨#[]⟩,.string ⟨#[]⟩,.string ⟨#[]⟩,.slice none 0 0,.int .i64 0,.slice none 0 0,.int .i64 0,.slice none 0 0,.slice none 0 0,.slice none 0 0,.slice none 0 0,.int .i64 o]) (n m:Nat) (S:Px.Rd StmtD) (hty:Reads c 77 n (okAgg typeQ) (Px.typeF c.size n)) (hst:Reads c 105 m (okAgg stmtQ) S) (hsh:Shr S) (hstr:Strict S) (hm:ts.length<n) (hm2:ts.length<m) :
  Calls Tryz.prog 40 #[.pointer (some ⟨c.R,0,none⟩),.pointer (some ⟨b,0,none⟩)] w (RPB c b 52 w (okCells stmtQ) (Px.letS c.size n o ts)):=by
 have HTY:Hid (Reads c 77 n (okAgg typeQ) (Px.typeF c.size n)):=hid hty
 have HST:Hid (Reads c 105 m (okAgg stmtQ) S):=hid hst
 have HSH:=hid hsh
 have HSTR:Hid (Strict S):=hid hstr
 clear hty hst hsh hstr
 have hmf:=make_func
 have H:=hid h
 have HD0:=hid hD
 have HR0:=H.out.lt.1
 have hb0:b≠c.R:=hap.1
 have hb1:b<w.heap.size:=hD.lt
 clear h hD
 go_enter Tryz.func40,Tryz.ntmps40
 go_wp2_with fail
 refine(name_any c ts _ (by exact H.out.frp hap frk)).mono ?_
 rintro e w1 hp
 rcases hp.cases with ⟨x1,ts1,v1,hq1,hf,hi,rfl,hv⟩|⟨ts1,hq1,hf,hi,rfl⟩
 ·clear hp
  obtain rfl:=hv
  have hT:Fr [c.R,b] w w1:=Fr.trans frk hf.wide
  have HD1:=hid (HD0.out.k hf)
  have HI1:=hid hi
  have HF1:=hid ((Fr.refl [c.R,b] w).trans hT)
  have hz1:=hf.size;try simp at hz1
  have hl1:ts1.length<ts.length:=Strict.name _ _ _ hq1.out
  clear hT hf hi
  have hlD:=HD1.out.lt
  obtain⟨d1,f1⟩:=HD1.out.df 1 (v:=.string ⟨#[]⟩) rfl
  go_wp2_with fail
  clear hlD d1 f1
  refine(accept_any c ts1 [[58]] _ _ 1 (by exact HI1.out.frp hap frk) rfl (by exact Blk.new_at (by simp)) rfl (by decide)).mono ?_
  rintro e w2 hp
  rcases hp.accept with ⟨hq2,_,hf,hi,rfl⟩|⟨hq2,hf,hi,rfl⟩
  ·clear hp
   have hl2:=accept_pos hq2.out rfl
   have hT:Fr [c.R,b] w1 w2:=Fr.trans frk hf.wide
   have HD2:Hid (Blk w2 (b) 52 #[.int .i64 1,.string ⟨x1.toArray⟩,.slice none 0 0,.slice none 0 0,.int .i64 0,.string ⟨#[]⟩,.string ⟨#[]⟩,.string ⟨#[]⟩,.slice none 0 0,.int .i64 0,.slice none 0 0,.int .i64 0,.slice none 0 0,.slice none 0 0,.slice none 0 0,.slice none 0 0,.int .i64 o]):=hid ((Blk.alloc (HD1.out.set 1 (.string ⟨x1.toArray⟩)) _).k hf)
   have HI2:=hid hi
   have HF2:=hid (HF1.out.trans hT)
   have hz2:=hf.size;try simp at hz2
   clear hT hf hi
   have hlD:=HD2.out.lt
   go_wp2_with fail
   clear hlD
   refine(HTY.out ts1.tail _ (by exact HI2.out.frp hap frk) (by omega)).mono ?_
   rintro e w3 hp
   rcases hp.cases with ⟨x3,ts3,v3,hq3,hf,hi,rfl,hv⟩|⟨ts3,hq3,hf,hi,rfl⟩
   ·clear hp
    obtain⟨cs,rfl,hrep⟩:=hv
    obtain⟨s3_0,p3_1,n3_1,c3_1,i3_2,rfl⟩:=hrep.c_typeQ
    have hV3:Rep w3 (fun k=>w.heap.size≤k) _ _:=hrep.mono (fun k hk _=>⟨by (try simp at hk);omega,rfl⟩)
    have hT:Fr [c.R,b] w2 w3:=Fr.trans frk hf.wide
    have HD3:=hid (HD2.out.k hf)
    have HI3:=hid hi
    have HF3:=hid (HF2.out.trans hT)
    have hz3:=hf.size;try simp at hz3
    have HV3:=hid hV3
    have hl3:ts3.length≤ts1.tail.length:=(shr_typeF _ _).ok hq3.out
    clear hT hf hi hV3 hrep
    have hlD:=HD3.out.lt
    obtain⟨d3,f3⟩:=HD3.out.df 3 (v:=.slice none 0 0) rfl
    go_wp2_with fail
    clear hlD d3 f3
    refine(expect_any c ts3 [[61]] _ _ 1 (by exact HI3.out.frp hap frk) rfl (by exact Blk.new_at (by simp)) rfl (by decide)).mono ?_
    rintro e w4 hp
    rcases hp.cases with ⟨x4,ts4,v4,hq4,hf,hi,rfl,hv⟩|⟨ts4,hq4,hf,hi,rfl⟩
    ·clear hp
     obtain rfl:=hv
     have hT:Fr [c.R,b] w3 w4:=Fr.trans frk hf.wide
     have HD4:Hid (Blk w4 (b) 52 #[.int .i64 1,.string ⟨x1.toArray⟩,.slice none 0 0,.slice (some ⟨w3.heap.size,0,none⟩) 1 1,.int .i64 0,.string ⟨#[]⟩,.string ⟨#[]⟩,.string ⟨#[]⟩,.slice none 0 0,.int .i64 0,.slice none 0 0,.int .i64 0,.slice none 0 0,.slice none 0 0,.slice none 0 0,.slice none 0 0,.int .i64 o]):=hid ((Blk.alloc (Blk.alloc (HD3.out.set 3 (.slice (some ⟨w3.heap.size,0,none⟩) 1 1)) _) _).k hf)
     have hN:Blk w4 (w3.heap.size) 39 #[.string s3_0,.slice p3_1 n3_1 c3_1,.int .i64 i3_2]:=Blk.keep (by repeat' (first|with_reducible refine Blk.new_at ?_|with_reducible refine Blk.alloc ?_ _|with_reducible refine Blk.other ?_ ?_ _|(simp;done)|(simp;omega))) hf (by simp;omega)
     have hNr:=row_one (b:=w.heap.size) hN (by omega) rfl (rep_own HV3.out hT (by simp;omega))
     have HN3_4:=hid hNr
     clear hN hNr
     have HV3_4:=hid (rep_own HV3.out hT (by simp;omega))
     have HI4:=hid hi
     have HF4:=hid (HF3.out.trans hT)
     have hz4:=hf.size;try simp at hz4
     have hl4:ts4.length≤ts3.length:=(Shr.expect _).ok hq4.out
     clear hT hf hi
     have hlD:=HD4.out.lt
     go_wp2_with fail
     clear hlD
     refine(expr_any c ts4 _ (by exact HI4.out.frp hap frk) n HTY.out (by omega)).mono ?_
     rintro e w5 hp
     rcases hp.cases with ⟨x5,ts5,v5,hq5,hf,hi,rfl,hv⟩|⟨ts5,hq5,hf,hi,rfl⟩
     ·clear hp
      obtain⟨cs,rfl,hrep⟩:=hv
      obtain⟨i5_0,s5_1,s5_2,s5_3,p5_4,n5_4,c5_4,i5_5,p5_6,n5_6,c5_6,i5_7,rfl⟩:=hrep.c_exprQ
      have hV5:Rep w5 (fun k=>w.heap.size≤k) _ _:=hrep.mono (fun k hk _=>⟨by (try simp at hk);omega,rfl⟩)
      have hT:Fr [c.R,b] w4 w5:=Fr.trans frk hf.wide
      have HD5:=hid (HD4.out.k hf)
      have HV3_5:=hid (rep_own HV3_4.out hT (by simp;omega))
      have HN3_5:=hid (row_own HN3_4.out (Nat.le_refl _) hT (by simp;omega))
      have HI5:=hid hi
      have HF5:=hid (HF4.out.trans hT)
      have hz5:=hf.size;try simp at hz5
      have HV5:=hid hV5
      have hl5:ts5.length≤ts4.length:=(shr_expr _ _).ok hq5.out
      clear hT hf hi hV5 hrep
      have hlD:=HD5.out.lt
      obtain⟨d4,f4⟩:=HD5.out.df 4 (v:=.int .i64 0) rfl
      obtain⟨d5,f5⟩:=HD5.out.df 5 (v:=.string ⟨#[]⟩) rfl
      obtain⟨d6,f6⟩:=HD5.out.df 6 (v:=.string ⟨#[]⟩) rfl
      obtain⟨d7,f7⟩:=HD5.out.df 7 (v:=.string ⟨#[]⟩) rfl
      obtain⟨d8,f8⟩:=HD5.out.df 8 (v:=.slice none 0 0) rfl
      obtain⟨d9,f9⟩:=HD5.out.df 9 (v:=.int .i64 0) rfl
      obtain⟨d10,f10⟩:=HD5.out.df 10 (v:=.slice none 0 0) rfl
      obtain⟨d11,f11⟩:=HD5.out.df 11 (v:=.int .i64 0) rfl
      go_wp2_with fail
      clear hlD d4 d5 d6 d7 d8 d9 d10 d11 f4 f5 f6 f7 f8 f9 f10 f11
      refine(expect_any c ts5 [[59]] _ _ 1 (by exact HI5.out.frp hap frk) rfl (by exact Blk.new_at (by simp)) rfl (by decide)).mono ?_
      rintro e w6 hp
      rcases hp.cases with ⟨x6,ts6,v6,hq6,hf,hi,rfl,hv⟩|⟨ts6,hq6,hf,hi,rfl⟩
      ·clear hp
       obtain rfl:=hv
       have hT:Fr [c.R,b] w5 w6:=Fr.trans frk hf.wide
       have HD6:Hid (Blk w6 (b) 52 #[.int .i64 1,.string ⟨x1.toArray⟩,.slice none 0 0,.slice (some ⟨w3.heap.size,0,none⟩) 1 1,.int .i64 i5_0,.string s5_1,.string s5_2,.string s5_3,.slice p5_4 n5_4 c5_4,.int .i64 i5_5,.slice p5_6 n5_6 c5_6,.int .i64 i5_7,.slice none 0 0,.slice none 0 0,.slice none 0 0,.slice none 0 0,.int .i64 o]):=hid ((Blk.alloc (blk_expr HD5.out (.int .i64 i5_0) (.string s5_1) (.string s5_2) (.string s5_3) (.slice p5_4 n5_4 c5_4) (.int .i64 i5_5) (.slice p5_6 n5_6 c5_6) (.int .i64 i5_7)) _).k hf)
       have HV3_6:=hid (rep_own HV3_5.out hT (by simp;omega))
       have HN3_6:=hid (row_own HN3_5.out (Nat.le_refl _) hT (by simp;omega))
       have HV5_6:=hid (rep_own HV5.out hT (by simp;omega))
       have HI6:=hid hi
       have HF6:=hid (HF5.out.trans hT)
       have hz6:=hf.size;try simp at hz6
       have hl6:ts6.length≤ts5.length:=(Shr.expect _).ok hq6.out
       clear hT hf hi
       have hlD:=HD6.out.lt
       go_wp2_with fail
       clear hlD
       first|go_end0|refine bodyPost_ret (results_none rfl _ _ _) rfl ?_
       exact RPB.ok (cs:=[.int .i64 1,.string ⟨x1.toArray⟩,.slice none 0 0,.slice (some ⟨w3.heap.size,0,none⟩) 1 1,.int .i64 i5_0,.string s5_1,.string s5_2,.string s5_3,.slice p5_4 n5_4 c5_4,.int .i64 i5_5,.slice p5_6 n5_6 c5_6,.int .i64 i5_7,.slice none 0 0,.slice none 0 0,.slice none 0 0,.slice none 0 0,.int .i64 o]) (by simp only[Px.letS,bind,Px.Rd.bind,offset_res,if_true,if_false,Bool.false_eq_true,hq1.out,hq2.out,hq3.out,hq4.out,hq5.out,hq6.out] <;> rfl) (HF6.out.trans frk) (HI6.out.frp hap frk) HD6.out (by unfold okCells;rw[stmtQ_mk];exact rep_int.2 ⟨_,rfl,rep_str.2 ⟨_,rfl,rep_sl.2 ⟨_,_,rfl,RowV.nil _ _ _ _,rep_sl.2 ⟨_,_,rfl,(row_own (b:=w.heap.size) HN3_6.out (by first|omega|(simp;done)|(simp;omega)) (X:=[b]) frk (by first|omega|(simp;done)|(simp;omega))),Rep.app (cs:=[.int .i64 i5_0,.string s5_1,.string s5_2,.string s5_3,.slice p5_4 n5_4 c5_4,.int .i64 i5_5,.slice p5_6 n5_6 c5_6,.int .i64 i5_7]) (rep_own (b:=w.heap.size) HV5_6.out (X:=[b]) frk (by first|omega|(simp;done)|(simp;omega)) (by first|omega|(simp;done)|(simp;omega))) (rep_sl.2 ⟨_,_,rfl,RowV.nil _ _ _ _,rep_sl.2 ⟨_,_,rfl,RowV.nil _ _ _ _,rep_sl.2 ⟨_,_,rfl,RowV.nil _ _ _ _,rep_sl.2 ⟨_,_,rfl,RowV.nil _ _ _ _,rep_int.2 ⟨_,rfl,rep_nil.2 rfl⟩⟩⟩⟩⟩)⟩⟩⟩⟩)
      ·go_wp2_with fail
       exact⟨rfl,RPB.bad (by simp only[Px.letS,bind,Px.Rd.bind,offset_res,if_true,if_false,Bool.false_eq_true,hq1.out,hq2.out,hq3.out,hq4.out,hq5.out,hq6.out]) (HF5.out.trans (Fr.trans frk hf.wide)) hi⟩
     ·go_wp2_with fail
      exact⟨rfl,RPB.bad (by simp only[Px.letS,bind,Px.Rd.bind,offset_res,if_true,if_false,Bool.false_eq_true,hq1.out,hq2.out,hq3.out,hq4.out,hq5.out]) (HF4.out.trans (Fr.trans frk hf.wide)) hi⟩
    ·go_wp2_with fail
     exact⟨rfl,RPB.bad (by simp only[Px.letS,bind,Px.Rd.bind,offset_res,if_true,if_false,Bool.false_eq_true,hq1.out,hq2.out,hq3.out,hq4.out]) (HF3.out.trans (Fr.trans frk hf.wide)) hi⟩
   ·go_wp2_with fail
    exact⟨rfl,RPB.bad (by simp only[Px.letS,bind,Px.Rd.bind,offset_res,if_true,if_false,Bool.false_eq_true,hq1.out,hq2.out,hq3.out]) (HF2.out.trans (Fr.trans frk hf.wide)) hi⟩
  ·clear hp
   have hT:Fr [c.R,b] w1 w2:=Fr.trans frk hf.wide
   have HD2:Hid (Blk w2 (b) 52 #[.int .i64 1,.string ⟨x1.toArray⟩,.slice none 0 0,.slice none 0 0,.int .i64 0,.string ⟨#[]⟩,.string ⟨#[]⟩,.string ⟨#[]⟩,.slice none 0 0,.int .i64 0,.slice none 0 0,.int .i64 0,.slice none 0 0,.slice none 0 0,.slice none 0 0,.slice none 0 0,.int .i64 o]):=hid ((Blk.alloc (HD1.out.set 1 (.string ⟨x1.toArray⟩)) _).k hf)
   have HI2:=hid hi
   have HF2:=hid (HF1.out.trans hT)
   have hz2:=hf.size;try simp at hz2
   clear hT hf hi
   have hlD:=HD2.out.lt
   go_wp2_with fail
   clear hlD
   refine(expect_any c ts1 [[61]] _ _ 1 (by exact HI2.out.frp hap frk) rfl (by exact Blk.new_at (by simp)) rfl (by decide)).mono ?_
   rintro e w7 hp
   rcases hp.cases with ⟨x7,ts7,v7,hq7,hf,hi,rfl,hv⟩|⟨ts7,hq7,hf,hi,rfl⟩
   ·clear hp
    obtain rfl:=hv
    have hT:Fr [c.R,b] w2 w7:=Fr.trans frk hf.wide
    have HD7:Hid (Blk w7 (b) 52 #[.int .i64 1,.string ⟨x1.toArray⟩,.slice none 0 0,.slice none 0 0,.int .i64 0,.string ⟨#[]⟩,.string ⟨#[]⟩,.string ⟨#[]⟩,.slice none 0 0,.int .i64 0,.slice none 0 0,.int .i64 0,.slice none 0 0,.slice none 0 0,.slice none 0 0,.slice none 0 0,.int .i64 o]):=hid ((Blk.alloc HD2.out _).k hf)
    have HI7:=hid hi
    have HF7:=hid (HF2.out.trans hT)
    have hz7:=hf.size;try simp at hz7
    have hl7:ts7.length≤ts1.length:=(Shr.expect _).ok hq7.out
    clear hT hf hi
    have hlD:=HD7.out.lt
    go_wp2_with fail
    clear hlD
    refine(expr_any c ts7 _ (by exact HI7.out.frp hap frk) n HTY.out (by omega)).mono ?_
    rintro e w8 hp
    rcases hp.cases with ⟨x8,ts8,v8,hq8,hf,hi,rfl,hv⟩|⟨ts8,hq8,hf,hi,rfl⟩
    ·clear hp
     obtain⟨cs,rfl,hrep⟩:=hv
     obtain⟨i8_0,s8_1,s8_2,s8_3,p8_4,n8_4,c8_4,i8_5,p8_6,n8_6,c8_6,i8_7,rfl⟩:=hrep.c_exprQ
     have hV8:Rep w8 (fun k=>w.heap.size≤k) _ _:=hrep.mono (fun k hk _=>⟨by (try simp at hk);omega,rfl⟩)
     have hT:Fr [c.R,b] w7 w8:=Fr.trans frk hf.wide
     have HD8:=hid (HD7.out.k hf)
     have HI8:=hid hi
     have HF8:=hid (HF7.out.trans hT)
     have hz8:=hf.size;try simp at hz8
     have HV8:=hid hV8
     have hl8:ts8.length≤ts7.length:=(shr_expr _ _).ok hq8.out
     clear hT hf hi hV8 hrep
     have hlD:=HD8.out.lt
     obtain⟨d4,f4⟩:=HD8.out.df 4 (v:=.int .i64 0) rfl
     obtain⟨d5,f5⟩:=HD8.out.df 5 (v:=.string ⟨#[]⟩) rfl
     obtain⟨d6,f6⟩:=HD8.out.df 6 (v:=.string ⟨#[]⟩) rfl
     obtain⟨d7,f7⟩:=HD8.out.df 7 (v:=.string ⟨#[]⟩) rfl
     obtain⟨d8,f8⟩:=HD8.out.df 8 (v:=.slice none 0 0) rfl
     obtain⟨d9,f9⟩:=HD8.out.df 9 (v:=.int .i64 0) rfl
     obtain⟨d10,f10⟩:=HD8.out.df 10 (v:=.slice none 0 0) rfl
     obtain⟨d11,f11⟩:=HD8.out.df 11 (v:=.int .i64 0) rfl
     go_wp2_with fail
     clear hlD d4 d5 d6 d7 d8 d9 d10 d11 f4 f5 f6 f7 f8 f9 f10 f11
     refine(expect_any c ts8 [[59]] _ _ 1 (by exact HI8.out.frp hap frk) rfl (by exact Blk.new_at (by simp)) rfl (by decide)).mono ?_
     rintro e w9 hp
     rcases hp.cases with ⟨x9,ts9,v9,hq9,hf,hi,rfl,hv⟩|⟨ts9,hq9,hf,hi,rfl⟩
     ·clear hp
      obtain rfl:=hv
      have hT:Fr [c.R,b] w8 w9:=Fr.trans frk hf.wide
      have HD9:Hid (Blk w9 (b) 52 #[.int .i64 1,.string ⟨x1.toArray⟩,.slice none 0 0,.slice none 0 0,.int .i64 i8_0,.string s8_1,.string s8_2,.string s8_3,.slice p8_4 n8_4 c8_4,.int .i64 i8_5,.slice p8_6 n8_6 c8_6,.int .i64 i8_7,.slice none 0 0,.slice none 0 0,.slice none 0 0,.slice none 0 0,.int .i64 o]):=hid ((Blk.alloc (blk_expr HD8.out (.int .i64 i8_0) (.string s8_1) (.string s8_2) (.string s8_3) (.slice p8_4 n8_4 c8_4) (.int .i64 i8_5) (.slice p8_6 n8_6 c8_6) (.int .i64 i8_7)) _).k hf)
      have HV8_9:=hid (rep_own HV8.out hT (by simp;omega))
      have HI9:=hid hi
      have HF9:=hid (HF8.out.trans hT)
      have hz9:=hf.size;try simp at hz9
      have hl9:ts9.length≤ts8.length:=(Shr.expect _).ok hq9.out
      clear hT hf hi
      have hlD:=HD9.out.lt
      go_wp2_with fail
      clear hlD
      first|go_end0|refine bodyPost_ret (results_none rfl _ _ _) rfl ?_
      exact RPB.ok (cs:=[.int .i64 1,.string ⟨x1.toArray⟩,.slice none 0 0,.slice none 0 0,.int .i64 i8_0,.string s8_1,.string s8_2,.string s8_3,.slice p8_4 n8_4 c8_4,.int .i64 i8_5,.slice p8_6 n8_6 c8_6,.int .i64 i8_7,.slice none 0 0,.slice none 0 0,.slice none 0 0,.slice none 0 0,.int .i64 o]) (by simp only[Px.letS,bind,Px.Rd.bind,offset_res,if_true,if_false,Bool.false_eq_true,hq1.out,hq2.out,hq7.out,hq8.out,hq9.out] <;> rfl) (HF9.out.trans frk) (HI9.out.frp hap frk) HD9.out (by unfold okCells;rw[stmtQ_mk];exact rep_int.2 ⟨_,rfl,rep_str.2 ⟨_,rfl,rep_sl.2 ⟨_,_,rfl,RowV.nil _ _ _ _,rep_sl.2 ⟨_,_,rfl,RowV.nil _ _ _ _,Rep.app (cs:=[.int .i64 i8_0,.string s8_1,.string s8_2,.string s8_3,.slice p8_4 n8_4 c8_4,.int .i64 i8_5,.slice p8_6 n8_6 c8_6,.int .i64 i8_7]) (rep_own (b:=w.heap.size) HV8_9.out (X:=[b]) frk (by first|omega|(simp;done)|(simp;omega)) (by first|omega|(simp;done)|(simp;omega))) (rep_sl.2 ⟨_,_,rfl,RowV.nil _ _ _ _,rep_sl.2 ⟨_,_,rfl,RowV.nil _ _ _ _,rep_sl.2 ⟨_,_,rfl,RowV.nil _ _ _ _,rep_sl.2 ⟨_,_,rfl,RowV.nil _ _ _ _,rep_int.2 ⟨_,rfl,rep_nil.2 rfl⟩⟩⟩⟩⟩)⟩⟩⟩⟩)
     ·go_wp2_with fail
      exact⟨rfl,RPB.bad (by simp only[Px.letS,bind,Px.Rd.bind,offset_res,if_true,if_false,Bool.false_eq_true,hq1.out,hq2.out,hq7.out,hq8.out,hq9.out]) (HF8.out.trans (Fr.trans frk hf.wide)) hi⟩
    ·go_wp2_with fail
     exact⟨rfl,RPB.bad (by simp only[Px.letS,bind,Px.Rd.bind,offset_res,if_true,if_false,Bool.false_eq_true,hq1.out,hq2.out,hq7.out,hq8.out]) (HF7.out.trans (Fr.trans frk hf.wide)) hi⟩
   ·go_wp2_with fail
    exact⟨rfl,RPB.bad (by simp only[Px.letS,bind,Px.Rd.bind,offset_res,if_true,if_false,Bool.false_eq_true,hq1.out,hq2.out,hq7.out]) (HF2.out.trans (Fr.trans frk hf.wide)) hi⟩
 ·go_wp2_with fail
  exact⟨rfl,RPB.bad (by simp only[Px.letS,bind,Px.Rd.bind,offset_res,if_true,if_false,Bool.false_eq_true,hq1.out]) ((Fr.refl [c.R,b] w).trans (Fr.trans frk hf.wide)) hi⟩
set_option maxRecDepth 100000 in
set_option maxHeartbeats 1600000 in
theorem store_any (c:Ctx) (o:Nat) (ts:List Tk) (w:World) (h:Inv c ts w) (b:Nat) (hap:c.Apart b) (hD:Blk w b 52 #[.int .i64 3,.string ⟨#[]⟩,.slice none 0 0,.slice none 0 0,.int .i64 0,.string ⟨#[]⟩,.string ⟨#[]⟩,.string ⟨#[]⟩,.slice none 0 0,.int .i64 0,.slice none 0 0,.int .i64 0,.slice none 0 0,.slice none 0 0,.slice none 0 0,.slice none 0 0,.int .i64 o]) (n m:Nat) (S:Px.Rd StmtD) (hty:Reads c 77 n (okAgg typeQ) (Px.typeF c.size n)) (hst:Reads c 105 m (okAgg stmtQ) S) (hsh:Shr S) (hstr:Strict S) (hm:ts.length<n) (hm2:ts.length<m) :
  Calls Tryz.prog 41 #[.pointer (some ⟨c.R,0,none⟩),.pointer (some ⟨b,0,none⟩)] w (RPB c b 52 w (okCells stmtQ) (Px.storeS o ts)):=by
 have HTY:Hid (Reads c 77 n (okAgg typeQ) (Px.typeF c.size n)):=hid hty
 have HST:Hid (Reads c 105 m (okAgg stmtQ) S):=hid hst
 have HSH:=hid hsh
 have HSTR:Hid (Strict S):=hid hstr
 clear hty hst hsh hstr
 have hmf:=make_func
 have H:=hid h
 have HD0:=hid hD
 have HR0:=H.out.lt.1
 have hb0:b≠c.R:=hap.1
 have hb1:b<w.heap.size:=hD.lt
 clear h hD
 go_enter Tryz.func41,Tryz.ntmps41
 go_wp2_with fail
 refine(name_any c ts _ (by exact H.out.frp hap frk)).mono ?_
 rintro e w1 hp
 rcases hp.cases with ⟨x1,ts1,v1,hq1,hf,hi,rfl,hv⟩|⟨ts1,hq1,hf,hi,rfl⟩
 ·clear hp
  obtain rfl:=hv
  have hT:Fr [c.R,b] w w1:=Fr.trans frk hf.wide
  have HD1:=hid (HD0.out.k hf)
  have HI1:=hid hi
  have HF1:=hid ((Fr.refl [c.R,b] w).trans hT)
  have hz1:=hf.size;try simp at hz1
  have hl1:ts1.length<ts.length:=Strict.name _ _ _ hq1.out
  clear hT hf hi
  have hlD:=HD1.out.lt
  obtain⟨d1,f1⟩:=HD1.out.df 1 (v:=.string ⟨#[]⟩) rfl
  go_wp2_with fail
  clear hlD d1 f1
  refine(expect_any c ts1 [[61]] _ _ 1 (by exact HI1.out.frp hap frk) rfl (by exact Blk.new_at (by simp)) rfl (by decide)).mono ?_
  rintro e w2 hp
  rcases hp.cases with ⟨x2,ts2,v2,hq2,hf,hi,rfl,hv⟩|⟨ts2,hq2,hf,hi,rfl⟩
  ·clear hp
   obtain rfl:=hv
   have hT:Fr [c.R,b] w1 w2:=Fr.trans frk hf.wide
   have HD2:Hid (Blk w2 (b) 52 #[.int .i64 3,.string ⟨x1.toArray⟩,.slice none 0 0,.slice none 0 0,.int .i64 0,.string ⟨#[]⟩,.string ⟨#[]⟩,.string ⟨#[]⟩,.slice none 0 0,.int .i64 0,.slice none 0 0,.int .i64 0,.slice none 0 0,.slice none 0 0,.slice none 0 0,.slice none 0 0,.int .i64 o]):=hid ((Blk.alloc (HD1.out.set 1 (.string ⟨x1.toArray⟩)) _).k hf)
   have HI2:=hid hi
   have HF2:=hid (HF1.out.trans hT)
   have hz2:=hf.size;try simp at hz2
   have hl2:ts2.length≤ts1.length:=(Shr.expect _).ok hq2.out
   clear hT hf hi
   have hlD:=HD2.out.lt
   go_wp2_with fail
   clear hlD
   refine(name_any c ts2 _ (by exact HI2.out.frp hap frk)).mono ?_
   rintro e w3 hp
   rcases hp.cases with ⟨x3,ts3,v3,hq3,hf,hi,rfl,hv⟩|⟨ts3,hq3,hf,hi,rfl⟩
   ·clear hp
    obtain rfl:=hv
    have hT:Fr [c.R,b] w2 w3:=Fr.trans frk hf.wide
    have HD3:=hid (HD2.out.k hf)
    have HI3:=hid hi
    have HF3:=hid (HF2.out.trans hT)
    have hz3:=hf.size;try simp at hz3
    have hl3:ts3.length<ts2.length:=Strict.name _ _ _ hq3.out
    clear hT hf hi
    have hlD:=HD3.out.lt
    obtain⟨d2,f2⟩:=HD3.out.df 2 (v:=.slice none 0 0) rfl
    go_wp2_with fail
    clear hlD d2 f2
    refine(expect_any c ts3 [[59]] _ _ 1 (by exact HI3.out.frp hap frk) rfl (by exact Blk.new_at (by simp)) rfl (by decide)).mono ?_
    rintro e w4 hp
    rcases hp.cases with ⟨x4,ts4,v4,hq4,hf,hi,rfl,hv⟩|⟨ts4,hq4,hf,hi,rfl⟩
    ·clear hp
     obtain rfl:=hv
     have hT:Fr [c.R,b] w3 w4:=Fr.trans frk hf.wide
     have HD4:Hid (Blk w4 (b) 52 #[.int .i64 3,.string ⟨x1.toArray⟩,.slice (some ⟨w3.heap.size,0,none⟩) 1 1,.slice none 0 0,.int .i64 0,.string ⟨#[]⟩,.string ⟨#[]⟩,.string ⟨#[]⟩,.slice none 0 0,.int .i64 0,.slice none 0 0,.int .i64 0,.slice none 0 0,.slice none 0 0,.slice none 0 0,.slice none 0 0,.int .i64 o]):=hid ((Blk.alloc (Blk.alloc (HD3.out.set 2 (.slice (some ⟨w3.heap.size,0,none⟩) 1 1)) _) _).k hf)
     have hN:Blk w4 (w3.heap.size) 9 #[.string ⟨x3.toArray⟩]:=Blk.keep (by repeat' (first|with_reducible refine Blk.new_at ?_|with_reducible refine Blk.alloc ?_ _|with_reducible refine Blk.other ?_ ?_ _|(simp;done)|(simp;omega))) hf (by simp;omega)
     have hNr:=strs_row (l:=[x3]) (b:=w.heap.size) hN (by omega) (by simp) (by simp)
     have HS_4:=hid hNr
     clear hN hNr
     have HI4:=hid hi
     have HF4:=hid (HF3.out.trans hT)
     have hz4:=hf.size;try simp at hz4
     have hl4:ts4.length≤ts3.length:=(Shr.expect _).ok hq4.out
     clear hT hf hi
     have hlD:=HD4.out.lt
     go_wp2_with fail
     clear hlD
     first|go_end0|refine bodyPost_ret (results_none rfl _ _ _) rfl ?_
     exact RPB.ok (cs:=[.int .i64 3,.string ⟨x1.toArray⟩,.slice (some ⟨w3.heap.size,0,none⟩) 1 1,.slice none 0 0,.int .i64 0,.string ⟨#[]⟩,.string ⟨#[]⟩,.string ⟨#[]⟩,.slice none 0 0,.int .i64 0,.slice none 0 0,.int .i64 0,.slice none 0 0,.slice none 0 0,.slice none 0 0,.slice none 0 0,.int .i64 o]) (by simp only[Px.storeS,bind,Px.Rd.bind,offset_res,if_true,if_false,Bool.false_eq_true,hq1.out,hq2.out,hq3.out,hq4.out] <;> rfl) (HF4.out.trans frk) (HI4.out.frp hap frk) HD4.out (by unfold okCells;rw[stmtQ_mk];exact rep_int.2 ⟨_,rfl,rep_str.2 ⟨_,rfl,rep_sl.2 ⟨_,_,rfl,(row_own (b:=w.heap.size) HS_4.out (by first|omega|(simp;done)|(simp;omega)) (X:=[b]) frk (by first|omega|(simp;done)|(simp;omega))),rep_sl.2 ⟨_,_,rfl,RowV.nil _ _ _ _,Rep.app (cs:=[.int .i64 0,.string ⟨#[]⟩,.string ⟨#[]⟩,.string ⟨#[]⟩,.slice none 0 0,.int .i64 0,.slice none 0 0,.int .i64 0]) expr0_rep (rep_sl.2 ⟨_,_,rfl,RowV.nil _ _ _ _,rep_sl.2 ⟨_,_,rfl,RowV.nil _ _ _ _,rep_sl.2 ⟨_,_,rfl,RowV.nil _ _ _ _,rep_sl.2 ⟨_,_,rfl,RowV.nil _ _ _ _,rep_int.2 ⟨_,rfl,rep_nil.2 rfl⟩⟩⟩⟩⟩)⟩⟩⟩⟩)
    ·go_wp2_with fail
     exact⟨rfl,RPB.bad (by simp only[Px.storeS,bind,Px.Rd.bind,offset_res,if_true,if_false,Bool.false_eq_true,hq1.out,hq2.out,hq3.out,hq4.out]) (HF3.out.trans (Fr.trans frk hf.wide)) hi⟩
   ·go_wp2_with fail
    exact⟨rfl,RPB.bad (by simp only[Px.storeS,bind,Px.Rd.bind,offset_res,if_true,if_false,Bool.false_eq_true,hq1.out,hq2.out,hq3.out]) (HF2.out.trans (Fr.trans frk hf.wide)) hi⟩
  ·go_wp2_with fail
   exact⟨rfl,RPB.bad (by simp only[Px.storeS,bind,Px.Rd.bind,offset_res,if_true,if_false,Bool.false_eq_true,hq1.out,hq2.out]) (HF1.out.trans (Fr.trans frk hf.wide)) hi⟩
 ·go_wp2_with fail
  exact⟨rfl,RPB.bad (by simp only[Px.storeS,bind,Px.Rd.bind,offset_res,if_true,if_false,Bool.false_eq_true,hq1.out]) ((Fr.refl [c.R,b] w).trans (Fr.trans frk hf.wide)) hi⟩
set_option maxRecDepth 100000 in
set_option maxHeartbeats 1600000 in
theorem choice_any (c:Ctx) (o:Nat) (ts:List Tk) (w:World) (h:Inv c ts w) (b:Nat) (hap:c.Apart b) (hD:Blk w b 52 #[.int .i64 4,.string ⟨#[]⟩,.slice none 0 0,.slice none 0 0,.int .i64 0,.string ⟨#[]⟩,.string ⟨#[]⟩,.string ⟨#[]⟩,.slice none 0 0,.int .i64 0,.slice none 0 0,.int .i64 0,.slice none 0 0,.slice none 0 0,.slice none 0 0,.slice none 0 0,.int .i64 o]) (n m:Nat) (S:Px.Rd StmtD) (hty:Reads c 77 n (okAgg typeQ) (Px.typeF c.size n)) (hst:Reads c 105 m (okAgg stmtQ) S) (hsh:Shr S) (hstr:Strict S) (hm:ts.length<n) (hm2:ts.length<m) :
  Calls Tryz.prog 42 #[.pointer (some ⟨c.R,0,none⟩),.pointer (some ⟨b,0,none⟩)] w (RPB c b 52 w (okCells stmtQ) (Px.choiceS S o ts)):=by
 have HTY:Hid (Reads c 77 n (okAgg typeQ) (Px.typeF c.size n)):=hid hty
 have HST:Hid (Reads c 105 m (okAgg stmtQ) S):=hid hst
 have HSH:=hid hsh
 have HSTR:Hid (Strict S):=hid hstr
 clear hty hst hsh hstr
 have hmf:=make_func
 have H:=hid h
 have HD0:=hid hD
 have HR0:=H.out.lt.1
 have hb0:b≠c.R:=hap.1
 have hb1:b<w.heap.size:=hD.lt
 clear h hD
 go_enter Tryz.func42,Tryz.ntmps42
 go_wp2_with fail
 refine(name_any c ts _ (by exact H.out.frp hap frk)).mono ?_
 rintro e w1 hp
 rcases hp.cases with ⟨x1,ts1,v1,hq1,hf,hi,rfl,hv⟩|⟨ts1,hq1,hf,hi,rfl⟩
 ·clear hp
  obtain rfl:=hv
  have hT:Fr [c.R,b] w w1:=Fr.trans frk hf.wide
  have HD1:=hid (HD0.out.k hf)
  have HI1:=hid hi
  have HF1:=hid ((Fr.refl [c.R,b] w).trans hT)
  have hz1:=hf.size;try simp at hz1
  have hl1:ts1.length<ts.length:=Strict.name _ _ _ hq1.out
  clear hT hf hi
  have hlD:=HD1.out.lt
  obtain⟨d1,f1⟩:=HD1.out.df 1 (v:=.string ⟨#[]⟩) rfl
  go_wp2_with fail
  clear hlD d1 f1
  refine(block_any c ts1 _ (by exact HI1.out.frp hap frk) n m S HTY.out HST.out HSH.out HSTR.out (by omega) (by omega)).mono ?_
  rintro e w2 hp
  rcases hp.cases with ⟨x2,ts2,v2,hq2,hf,hi,rfl,hv⟩|⟨ts2,hq2,hf,hi,rfl⟩
  ·clear hp
   obtain⟨p2,n2,k2,rfl⟩:=row_shp hv
   have hV2:=row_own (b:=w.heap.size) hv (by first|omega|(simp;done)|(simp;omega)) (Fr.refl [] _) (by simp)
   have hT:Fr [c.R,b] w1 w2:=Fr.trans frk hf.wide
   have HD2:Hid (Blk w2 (b) 52 #[.int .i64 4,.string ⟨x1.toArray⟩,.slice none 0 0,.slice none 0 0,.int .i64 0,.string ⟨#[]⟩,.string ⟨#[]⟩,.string ⟨#[]⟩,.slice none 0 0,.int .i64 0,.slice none 0 0,.int .i64 0,.slice none 0 0,.slice none 0 0,.slice none 0 0,.slice none 0 0,.int .i64 o]):=hid ((HD1.out.set 1 (.string ⟨x1.toArray⟩)).k hf)
   have HI2:=hid hi
   have HF2:=hid (HF1.out.trans hT)
   have hz2:=hf.size;try simp at hz2
   have HV2:=hid hV2
   have hl2:ts2.length≤ts1.length:=(shr_block HSH.out).ok hq2.out
   clear hT hf hi hV2 hv
   have hlD:=HD2.out.lt
   obtain⟨d12,f12⟩:=HD2.out.df 12 (v:=.slice none 0 0) rfl
   go_wp2_with fail
   clear hlD d12 f12
   refine(accept_any c ts2 [[101,108,115,101]] _ _ 1 (by exact HI2.out.frp hap frk) rfl (by exact Blk.new_at (by simp)) rfl (by decide)).mono ?_
   rintro e w3 hp
   rcases hp.accept with ⟨hq3,_,hf,hi,rfl⟩|⟨hq3,hf,hi,rfl⟩
   ·clear hp
    have hl3:=accept_pos hq3.out rfl
    have hT:Fr [c.R,b] w2 w3:=Fr.trans frk hf.wide
    have HD3:Hid (Blk w3 (b) 52 #[.int .i64 4,.string ⟨x1.toArray⟩,.slice none 0 0,.slice none 0 0,.int .i64 0,.string ⟨#[]⟩,.string ⟨#[]⟩,.string ⟨#[]⟩,.slice none 0 0,.int .i64 0,.slice none 0 0,.int .i64 0,.slice p2 n2 k2,.slice none 0 0,.slice none 0 0,.slice none 0 0,.int .i64 o]):=hid ((Blk.alloc (HD2.out.set 12 (.slice p2 n2 k2)) _).k hf)
    have HV2_3:=hid (row_own HV2.out (Nat.le_refl _) hT (by simp;omega))
    have HI3:=hid hi
    have HF3:=hid (HF2.out.trans hT)
    have hz3:=hf.size;try simp at hz3
    clear hT hf hi
    have hlD:=HD3.out.lt
    go_wp2_with fail
    clear hlD
    refine(block_any c ts2.tail _ (by exact HI3.out.frp hap frk) n m S HTY.out HST.out HSH.out HSTR.out (by omega) (by omega)).mono ?_
    rintro e w4 hp
    rcases hp.cases with ⟨x4,ts4,v4,hq4,hf,hi,rfl,hv⟩|⟨ts4,hq4,hf,hi,rfl⟩
    ·clear hp
     obtain⟨p4,n4,k4,rfl⟩:=row_shp hv
     have hV4:=row_own (b:=w.heap.size) hv (by first|omega|(simp;done)|(simp;omega)) (Fr.refl [] _) (by simp)
     have hT:Fr [c.R,b] w3 w4:=Fr.trans frk hf.wide
     have HD4:=hid (HD3.out.k hf)
     have HV2_4:=hid (row_own HV2_3.out (Nat.le_refl _) hT (by simp;omega))
     have HI4:=hid hi
     have HF4:=hid (HF3.out.trans hT)
     have hz4:=hf.size;try simp at hz4
     have HV4:=hid hV4
     have hl4:ts4.length≤ts2.tail.length:=(shr_block HSH.out).ok hq4.out
     clear hT hf hi hV4 hv
     have hlD:=HD4.out.lt
     obtain⟨d13,f13⟩:=HD4.out.df 13 (v:=.slice none 0 0) rfl
     go_wp2_with fail
     clear hlD d13 f13
     first|go_end0|refine bodyPost_ret (results_none rfl _ _ _) rfl ?_
     exact RPB.ok (cs:=[.int .i64 4,.string ⟨x1.toArray⟩,.slice none 0 0,.slice none 0 0,.int .i64 0,.string ⟨#[]⟩,.string ⟨#[]⟩,.string ⟨#[]⟩,.slice none 0 0,.int .i64 0,.slice none 0 0,.int .i64 0,.slice p2 n2 k2,.slice p4 n4 k4,.slice none 0 0,.slice none 0 0,.int .i64 o]) (by simp only[Px.choiceS,bind,Px.Rd.bind,offset_res,if_true,if_false,Bool.false_eq_true,hq1.out,hq2.out,hq3.out,hq4.out] <;> rfl) (HF4.out.trans frk) (HI4.out.frp hap frk) (HD4.out.set 13 (.slice p4 n4 k4)) (by unfold okCells;rw[stmtQ_mk];exact rep_int.2 ⟨_,rfl,rep_str.2 ⟨_,rfl,rep_sl.2 ⟨_,_,rfl,RowV.nil _ _ _ _,rep_sl.2 ⟨_,_,rfl,RowV.nil _ _ _ _,Rep.app (cs:=[.int .i64 0,.string ⟨#[]⟩,.string ⟨#[]⟩,.string ⟨#[]⟩,.slice none 0 0,.int .i64 0,.slice none 0 0,.int .i64 0]) expr0_rep (rep_sl.2 ⟨_,_,rfl,(row_own (b:=w.heap.size) HV2_4.out (by first|omega|(simp;done)|(simp;omega)) (X:=[b]) frk (by first|omega|(simp;done)|(simp;omega))),rep_sl.2 ⟨_,_,rfl,(row_own (b:=w.heap.size) HV4.out (by first|omega|(simp;done)|(simp;omega)) (X:=[b]) frk (by first|omega|(simp;done)|(simp;omega))),rep_sl.2 ⟨_,_,rfl,RowV.nil _ _ _ _,rep_sl.2 ⟨_,_,rfl,RowV.nil _ _ _ _,rep_int.2 ⟨_,rfl,rep_nil.2 rfl⟩⟩⟩⟩⟩)⟩⟩⟩⟩)
    ·go_wp2_with fail
     exact⟨rfl,RPB.bad (by simp only[Px.choiceS,bind,Px.Rd.bind,offset_res,if_true,if_false,Bool.false_eq_true,hq1.out,hq2.out,hq3.out,hq4.out]) (HF3.out.trans (Fr.trans frk hf.wide)) hi⟩
   ·clear hp
    have hT:Fr [c.R,b] w2 w3:=Fr.trans frk hf.wide
    have HD3:Hid (Blk w3 (b) 52 #[.int .i64 4,.string ⟨x1.toArray⟩,.slice none 0 0,.slice none 0 0,.int .i64 0,.string ⟨#[]⟩,.string ⟨#[]⟩,.string ⟨#[]⟩,.slice none 0 0,.int .i64 0,.slice none 0 0,.int .i64 0,.slice p2 n2 k2,.slice none 0 0,.slice none 0 0,.slice none 0 0,.int .i64 o]):=hid ((Blk.alloc (HD2.out.set 12 (.slice p2 n2 k2)) _).k hf)
    have HV2_3:=hid (row_own HV2.out (Nat.le_refl _) hT (by simp;omega))
    have HI3:=hid hi
    have HF3:=hid (HF2.out.trans hT)
    have hz3:=hf.size;try simp at hz3
    clear hT hf hi
    have hlD:=HD3.out.lt
    go_wp2_with fail
    clear hlD
    first|go_end0|refine bodyPost_ret (results_none rfl _ _ _) rfl ?_
    exact RPB.ok (cs:=[.int .i64 4,.string ⟨x1.toArray⟩,.slice none 0 0,.slice none 0 0,.int .i64 0,.string ⟨#[]⟩,.string ⟨#[]⟩,.string ⟨#[]⟩,.slice none 0 0,.int .i64 0,.slice none 0 0,.int .i64 0,.slice p2 n2 k2,.slice none 0 0,.slice none 0 0,.slice none 0 0,.int .i64 o]) (by simp only[Px.choiceS,bind,Px.Rd.bind,offset_res,if_true,if_false,Bool.false_eq_true,hq1.out,hq2.out,hq3.out] <;> rfl) (HF3.out.trans frk) (HI3.out.frp hap frk) HD3.out (by unfold okCells;rw[stmtQ_mk];exact rep_int.2 ⟨_,rfl,rep_str.2 ⟨_,rfl,rep_sl.2 ⟨_,_,rfl,RowV.nil _ _ _ _,rep_sl.2 ⟨_,_,rfl,RowV.nil _ _ _ _,Rep.app (cs:=[.int .i64 0,.string ⟨#[]⟩,.string ⟨#[]⟩,.string ⟨#[]⟩,.slice none 0 0,.int .i64 0,.slice none 0 0,.int .i64 0]) expr0_rep (rep_sl.2 ⟨_,_,rfl,(row_own (b:=w.heap.size) HV2_3.out (by first|omega|(simp;done)|(simp;omega)) (X:=[b]) frk (by first|omega|(simp;done)|(simp;omega))),rep_sl.2 ⟨_,_,rfl,RowV.nil _ _ _ _,rep_sl.2 ⟨_,_,rfl,RowV.nil _ _ _ _,rep_sl.2 ⟨_,_,rfl,RowV.nil _ _ _ _,rep_int.2 ⟨_,rfl,rep_nil.2 rfl⟩⟩⟩⟩⟩)⟩⟩⟩⟩)
  ·go_wp2_with fail
   exact⟨rfl,RPB.bad (by simp only[Px.choiceS,bind,Px.Rd.bind,offset_res,if_true,if_false,Bool.false_eq_true,hq1.out,hq2.out]) (HF1.out.trans (Fr.trans frk hf.wide)) hi⟩
 ·go_wp2_with fail
  exact⟨rfl,RPB.bad (by simp only[Px.choiceS,bind,Px.Rd.bind,offset_res,if_true,if_false,Bool.false_eq_true,hq1.out]) ((Fr.refl [c.R,b] w).trans (Fr.trans frk hf.wide)) hi⟩
set_option maxRecDepth 100000 in
set_option maxHeartbeats 1600000 in
theorem loop_any (c:Ctx) (o:Nat) (ts:List Tk) (w:World) (h:Inv c ts w) (b:Nat) (hap:c.Apart b) (hD:Blk w b 52 #[.int .i64 5,.string ⟨#[]⟩,.slice none 0 0,.slice none 0 0,.int .i64 0,.string ⟨#[]⟩,.string ⟨#[]⟩,.string ⟨#[]⟩,.slice none 0 0,.int .i64 0,.slice none 0 0,.int .i64 0,.slice none 0 0,.slice none 0 0,.slice none 0 0,.slice none 0 0,.int .i64 o]) (n m:Nat) (S:Px.Rd StmtD) (hty:Reads c 77 n (okAgg typeQ) (Px.typeF c.size n)) (hst:Reads c 105 m (okAgg stmtQ) S) (hsh:Shr S) (hstr:Strict S) (hm:ts.length<n) (hm2:ts.length<m) :
  Calls Tryz.prog 43 #[.pointer (some ⟨c.R,0,none⟩),.pointer (some ⟨b,0,none⟩)] w (RPB c b 52 w (okCells stmtQ) (Px.loopS S o ts)):=by
 have HTY:Hid (Reads c 77 n (okAgg typeQ) (Px.typeF c.size n)):=hid hty
 have HST:Hid (Reads c 105 m (okAgg stmtQ) S):=hid hst
 have HSH:=hid hsh
 have HSTR:Hid (Strict S):=hid hstr
 clear hty hst hsh hstr
 have hmf:=make_func
 have H:=hid h
 have HD0:=hid hD
 have HR0:=H.out.lt.1
 have hb0:b≠c.R:=hap.1
 have hb1:b<w.heap.size:=hD.lt
 clear h hD
 go_enter Tryz.func43,Tryz.ntmps43
 go_wp2_with fail
 refine(name_any c ts _ (by exact H.out.frp hap frk)).mono ?_
 rintro e w1 hp
 rcases hp.cases with ⟨x1,ts1,v1,hq1,hf,hi,rfl,hv⟩|⟨ts1,hq1,hf,hi,rfl⟩
 ·clear hp
  obtain rfl:=hv
  have hT:Fr [c.R,b] w w1:=Fr.trans frk hf.wide
  have HD1:=hid (HD0.out.k hf)
  have HI1:=hid hi
  have HF1:=hid ((Fr.refl [c.R,b] w).trans hT)
  have hz1:=hf.size;try simp at hz1
  have hl1:ts1.length<ts.length:=Strict.name _ _ _ hq1.out
  clear hT hf hi
  have hlD:=HD1.out.lt
  obtain⟨d1,f1⟩:=HD1.out.df 1 (v:=.string ⟨#[]⟩) rfl
  go_wp2_with fail
  clear hlD d1 f1
  refine(block_any c ts1 _ (by exact HI1.out.frp hap frk) n m S HTY.out HST.out HSH.out HSTR.out (by omega) (by omega)).mono ?_
  rintro e w2 hp
  rcases hp.cases with ⟨x2,ts2,v2,hq2,hf,hi,rfl,hv⟩|⟨ts2,hq2,hf,hi,rfl⟩
  ·clear hp
   obtain⟨p2,n2,k2,rfl⟩:=row_shp hv
   have hV2:=row_own (b:=w.heap.size) hv (by first|omega|(simp;done)|(simp;omega)) (Fr.refl [] _) (by simp)
   have hT:Fr [c.R,b] w1 w2:=Fr.trans frk hf.wide
   have HD2:Hid (Blk w2 (b) 52 #[.int .i64 5,.string ⟨x1.toArray⟩,.slice none 0 0,.slice none 0 0,.int .i64 0,.string ⟨#[]⟩,.string ⟨#[]⟩,.string ⟨#[]⟩,.slice none 0 0,.int .i64 0,.slice none 0 0,.int .i64 0,.slice none 0 0,.slice none 0 0,.slice none 0 0,.slice none 0 0,.int .i64 o]):=hid ((HD1.out.set 1 (.string ⟨x1.toArray⟩)).k hf)
   have HI2:=hid hi
   have HF2:=hid (HF1.out.trans hT)
   have hz2:=hf.size;try simp at hz2
   have HV2:=hid hV2
   have hl2:ts2.length≤ts1.length:=(shr_block HSH.out).ok hq2.out
   clear hT hf hi hV2 hv
   have hlD:=HD2.out.lt
   obtain⟨d12,f12⟩:=HD2.out.df 12 (v:=.slice none 0 0) rfl
   go_wp2_with fail
   clear hlD d12 f12
   first|go_end0|refine bodyPost_ret (results_none rfl _ _ _) rfl ?_
   exact RPB.ok (cs:=[.int .i64 5,.string ⟨x1.toArray⟩,.slice none 0 0,.slice none 0 0,.int .i64 0,.string ⟨#[]⟩,.string ⟨#[]⟩,.string ⟨#[]⟩,.slice none 0 0,.int .i64 0,.slice none 0 0,.int .i64 0,.slice p2 n2 k2,.slice none 0 0,.slice none 0 0,.slice none 0 0,.int .i64 o]) (by simp only[Px.loopS,bind,Px.Rd.bind,offset_res,if_true,if_false,Bool.false_eq_true,hq1.out,hq2.out] <;> rfl) (HF2.out.trans frk) (HI2.out.frp hap frk) (HD2.out.set 12 (.slice p2 n2 k2)) (by unfold okCells;rw[stmtQ_mk];exact rep_int.2 ⟨_,rfl,rep_str.2 ⟨_,rfl,rep_sl.2 ⟨_,_,rfl,RowV.nil _ _ _ _,rep_sl.2 ⟨_,_,rfl,RowV.nil _ _ _ _,Rep.app (cs:=[.int .i64 0,.string ⟨#[]⟩,.string ⟨#[]⟩,.string ⟨#[]⟩,.slice none 0 0,.int .i64 0,.slice none 0 0,.int .i64 0]) expr0_rep (rep_sl.2 ⟨_,_,rfl,(row_own (b:=w.heap.size) HV2.out (by first|omega|(simp;done)|(simp;omega)) (X:=[b]) frk (by first|omega|(simp;done)|(simp;omega))),rep_sl.2 ⟨_,_,rfl,RowV.nil _ _ _ _,rep_sl.2 ⟨_,_,rfl,RowV.nil _ _ _ _,rep_sl.2 ⟨_,_,rfl,RowV.nil _ _ _ _,rep_int.2 ⟨_,rfl,rep_nil.2 rfl⟩⟩⟩⟩⟩)⟩⟩⟩⟩)
  ·go_wp2_with fail
   exact⟨rfl,RPB.bad (by simp only[Px.loopS,bind,Px.Rd.bind,offset_res,if_true,if_false,Bool.false_eq_true,hq1.out,hq2.out]) (HF1.out.trans (Fr.trans frk hf.wide)) hi⟩
 ·go_wp2_with fail
  exact⟨rfl,RPB.bad (by simp only[Px.loopS,bind,Px.Rd.bind,offset_res,if_true,if_false,Bool.false_eq_true,hq1.out]) ((Fr.refl [c.R,b] w).trans (Fr.trans frk hf.wide)) hi⟩
set_option maxRecDepth 100000 in
set_option maxHeartbeats 1600000 in
theorem named_any (c:Ctx) (k o:Nat) (ts:List Tk) (w:World) (h:Inv c ts w) (b:Nat) (hap:c.Apart b) (hD:Blk w b 52 #[.int .i64 k,.string ⟨#[]⟩,.slice none 0 0,.slice none 0 0,.int .i64 0,.string ⟨#[]⟩,.string ⟨#[]⟩,.string ⟨#[]⟩,.slice none 0 0,.int .i64 0,.slice none 0 0,.int .i64 0,.slice none 0 0,.slice none 0 0,.slice none 0 0,.slice none 0 0,.int .i64 o]) (n m:Nat) (S:Px.Rd StmtD) (hty:Reads c 77 n (okAgg typeQ) (Px.typeF c.size n)) (hst:Reads c 105 m (okAgg stmtQ) S) (hsh:Shr S) (hstr:Strict S) (hm:ts.length<n) (hm2:ts.length<m) :
  Calls Tryz.prog 45 #[.pointer (some ⟨c.R,0,none⟩),.pointer (some ⟨b,0,none⟩)] w (RPB c b 52 w (okCells stmtQ) (Px.namedS k o ts)):=by
 have HTY:Hid (Reads c 77 n (okAgg typeQ) (Px.typeF c.size n)):=hid hty
 have HST:Hid (Reads c 105 m (okAgg stmtQ) S):=hid hst
 have HSH:=hid hsh
 have HSTR:Hid (Strict S):=hid hstr
 clear hty hst hsh hstr
 have hmf:=make_func
 have H:=hid h
 have HD0:=hid hD
 have HR0:=H.out.lt.1
 have hb0:b≠c.R:=hap.1
 have hb1:b<w.heap.size:=hD.lt
 clear h hD
 go_enter Tryz.func45,Tryz.ntmps45
 go_wp2_with fail
 refine(name_any c ts _ (by exact H.out.frp hap frk)).mono ?_
 rintro e w1 hp
 rcases hp.cases with ⟨x1,ts1,v1,hq1,hf,hi,rfl,hv⟩|⟨ts1,hq1,hf,hi,rfl⟩
 ·clear hp
  obtain rfl:=hv
  have hT:Fr [c.R,b] w w1:=Fr.trans frk hf.wide
  have HD1:=hid (HD0.out.k hf)
  have HI1:=hid hi
  have HF1:=hid ((Fr.refl [c.R,b] w).trans hT)
  have hz1:=hf.size;try simp at hz1
  have hl1:ts1.length<ts.length:=Strict.name _ _ _ hq1.out
  clear hT hf hi
  have hlD:=HD1.out.lt
  obtain⟨d1,f1⟩:=HD1.out.df 1 (v:=.string ⟨#[]⟩) rfl
  go_wp2_with fail
  clear hlD d1 f1
  refine(expect_any c ts1 [[59]] _ _ 1 (by exact HI1.out.frp hap frk) rfl (by exact Blk.new_at (by simp)) rfl (by decide)).mono ?_
  rintro e w2 hp
  rcases hp.cases with ⟨x2,ts2,v2,hq2,hf,hi,rfl,hv⟩|⟨ts2,hq2,hf,hi,rfl⟩
  ·clear hp
   obtain rfl:=hv
   have hT:Fr [c.R,b] w1 w2:=Fr.trans frk hf.wide
   have HD2:Hid (Blk w2 (b) 52 #[.int .i64 k,.string ⟨x1.toArray⟩,.slice none 0 0,.slice none 0 0,.int .i64 0,.string ⟨#[]⟩,.string ⟨#[]⟩,.string ⟨#[]⟩,.slice none 0 0,.int .i64 0,.slice none 0 0,.int .i64 0,.slice none 0 0,.slice none 0 0,.slice none 0 0,.slice none 0 0,.int .i64 o]):=hid ((Blk.alloc (HD1.out.set 1 (.string ⟨x1.toArray⟩)) _).k hf)
   have HI2:=hid hi
   have HF2:=hid (HF1.out.trans hT)
   have hz2:=hf.size;try simp at hz2
   have hl2:ts2.length≤ts1.length:=(Shr.expect _).ok hq2.out
   clear hT hf hi
   have hlD:=HD2.out.lt
   go_wp2_with fail
   clear hlD
   first|go_end0|refine bodyPost_ret (results_none rfl _ _ _) rfl ?_
   exact RPB.ok (cs:=[.int .i64 k,.string ⟨x1.toArray⟩,.slice none 0 0,.slice none 0 0,.int .i64 0,.string ⟨#[]⟩,.string ⟨#[]⟩,.string ⟨#[]⟩,.slice none 0 0,.int .i64 0,.slice none 0 0,.int .i64 0,.slice none 0 0,.slice none 0 0,.slice none 0 0,.slice none 0 0,.int .i64 o]) (by simp only[Px.namedS,bind,Px.Rd.bind,offset_res,if_true,if_false,Bool.false_eq_true,hq1.out,hq2.out] <;> rfl) (HF2.out.trans frk) (HI2.out.frp hap frk) HD2.out (by unfold okCells;rw[stmtQ_mk];exact rep_int.2 ⟨_,rfl,rep_str.2 ⟨_,rfl,rep_sl.2 ⟨_,_,rfl,RowV.nil _ _ _ _,rep_sl.2 ⟨_,_,rfl,RowV.nil _ _ _ _,Rep.app (cs:=[.int .i64 0,.string ⟨#[]⟩,.string ⟨#[]⟩,.string ⟨#[]⟩,.slice none 0 0,.int .i64 0,.slice none 0 0,.int .i64 0]) expr0_rep (rep_sl.2 ⟨_,_,rfl,RowV.nil _ _ _ _,rep_sl.2 ⟨_,_,rfl,RowV.nil _ _ _ _,rep_sl.2 ⟨_,_,rfl,RowV.nil _ _ _ _,rep_sl.2 ⟨_,_,rfl,RowV.nil _ _ _ _,rep_int.2 ⟨_,rfl,rep_nil.2 rfl⟩⟩⟩⟩⟩)⟩⟩⟩⟩)
  ·go_wp2_with fail
   exact⟨rfl,RPB.bad (by simp only[Px.namedS,bind,Px.Rd.bind,offset_res,if_true,if_false,Bool.false_eq_true,hq1.out,hq2.out]) (HF1.out.trans (Fr.trans frk hf.wide)) hi⟩
 ·go_wp2_with fail
  exact⟨rfl,RPB.bad (by simp only[Px.namedS,bind,Px.Rd.bind,offset_res,if_true,if_false,Bool.false_eq_true,hq1.out]) ((Fr.refl [c.R,b] w).trans (Fr.trans frk hf.wide)) hi⟩
set_option maxRecDepth 100000 in
set_option maxHeartbeats 1600000 in
theorem bare_any (c:Ctx) (o:Nat) (ts:List Tk) (w:World) (h:Inv c ts w) (b:Nat) (hap:c.Apart b) (hD:Blk w b 52 #[.int .i64 8,.string ⟨#[]⟩,.slice none 0 0,.slice none 0 0,.int .i64 0,.string ⟨#[]⟩,.string ⟨#[]⟩,.string ⟨#[]⟩,.slice none 0 0,.int .i64 0,.slice none 0 0,.int .i64 0,.slice none 0 0,.slice none 0 0,.slice none 0 0,.slice none 0 0,.int .i64 o]) (n m:Nat) (S:Px.Rd StmtD) (hty:Reads c 77 n (okAgg typeQ) (Px.typeF c.size n)) (hst:Reads c 105 m (okAgg stmtQ) S) (hsh:Shr S) (hstr:Strict S) (hm:ts.length<n) (hm2:ts.length<m) :
  Calls Tryz.prog 46 #[.pointer (some ⟨c.R,0,none⟩),.pointer (some ⟨b,0,none⟩)] w (RPB c b 52 w (okCells stmtQ) (Px.bareS o ts)):=by
 have HTY:Hid (Reads c 77 n (okAgg typeQ) (Px.typeF c.size n)):=hid hty
 have HST:Hid (Reads c 105 m (okAgg stmtQ) S):=hid hst
 have HSH:=hid hsh
 have HSTR:Hid (Strict S):=hid hstr
 clear hty hst hsh hstr
 have hmf:=make_func
 have H:=hid h
 have HD0:=hid hD
 have HR0:=H.out.lt.1
 have hb0:b≠c.R:=hap.1
 have hb1:b<w.heap.size:=hD.lt
 clear h hD
 go_enter Tryz.func46,Tryz.ntmps46
 go_wp2_with fail
 refine(expect_any c ts [[59]] _ _ 1 (by exact H.out.frp hap frk) rfl (by exact Blk.new_at (by simp)) rfl (by decide)).mono ?_
 rintro e w1 hp
 rcases hp.cases with ⟨x1,ts1,v1,hq1,hf,hi,rfl,hv⟩|⟨ts1,hq1,hf,hi,rfl⟩
 ·clear hp
  obtain rfl:=hv
  have hT:Fr [c.R,b] w w1:=Fr.trans frk hf.wide
  have HD1:Hid (Blk w1 (b) 52 #[.int .i64 8,.string ⟨#[]⟩,.slice none 0 0,.slice none 0 0,.int .i64 0,.string ⟨#[]⟩,.string ⟨#[]⟩,.string ⟨#[]⟩,.slice none 0 0,.int .i64 0,.slice none 0 0,.int .i64 0,.slice none 0 0,.slice none 0 0,.slice none 0 0,.slice none 0 0,.int .i64 o]):=hid ((Blk.alloc HD0.out _).k hf)
  have HI1:=hid hi
  have HF1:=hid ((Fr.refl [c.R,b] w).trans hT)
  have hz1:=hf.size;try simp at hz1
  have hl1:ts1.length≤ts.length:=(Shr.expect _).ok hq1.out
  clear hT hf hi
  have hlD:=HD1.out.lt
  go_wp2_with fail
  clear hlD
  first|go_end0|refine bodyPost_ret (results_none rfl _ _ _) rfl ?_
  exact RPB.ok (cs:=[.int .i64 8,.string ⟨#[]⟩,.slice none 0 0,.slice none 0 0,.int .i64 0,.string ⟨#[]⟩,.string ⟨#[]⟩,.string ⟨#[]⟩,.slice none 0 0,.int .i64 0,.slice none 0 0,.int .i64 0,.slice none 0 0,.slice none 0 0,.slice none 0 0,.slice none 0 0,.int .i64 o]) (by simp only[Px.bareS,bind,Px.Rd.bind,offset_res,if_true,if_false,Bool.false_eq_true,hq1.out] <;> rfl) (HF1.out.trans frk) (HI1.out.frp hap frk) HD1.out (by unfold okCells;rw[stmtQ_mk];exact rep_int.2 ⟨_,rfl,rep_str.2 ⟨_,rfl,rep_sl.2 ⟨_,_,rfl,RowV.nil _ _ _ _,rep_sl.2 ⟨_,_,rfl,RowV.nil _ _ _ _,Rep.app (cs:=[.int .i64 0,.string ⟨#[]⟩,.string ⟨#[]⟩,.string ⟨#[]⟩,.slice none 0 0,.int .i64 0,.slice none 0 0,.int .i64 0]) expr0_rep (rep_sl.2 ⟨_,_,rfl,RowV.nil _ _ _ _,rep_sl.2 ⟨_,_,rfl,RowV.nil _ _ _ _,rep_sl.2 ⟨_,_,rfl,RowV.nil _ _ _ _,rep_sl.2 ⟨_,_,rfl,RowV.nil _ _ _ _,rep_int.2 ⟨_,rfl,rep_nil.2 rfl⟩⟩⟩⟩⟩)⟩⟩⟩⟩)
 ·go_wp2_with fail
  exact⟨rfl,RPB.bad (by simp only[Px.bareS,bind,Px.Rd.bind,offset_res,if_true,if_false,Bool.false_eq_true,hq1.out]) ((Fr.refl [c.R,b] w).trans (Fr.trans frk hf.wide)) hi⟩
set_option maxRecDepth 100000 in
set_option maxHeartbeats 1600000 in
theorem send_any (c:Ctx) (o:Nat) (ts:List Tk) (w:World) (h:Inv c ts w) (b:Nat) (hap:c.Apart b) (hD:Blk w b 52 #[.int .i64 11,.string ⟨#[]⟩,.slice none 0 0,.slice none 0 0,.int .i64 0,.string ⟨#[]⟩,.string ⟨#[]⟩,.string ⟨#[]⟩,.slice none 0 0,.int .i64 0,.slice none 0 0,.int .i64 0,.slice none 0 0,.slice none 0 0,.slice none 0 0,.slice none 0 0,.int .i64 o]) (n m:Nat) (S:Px.Rd StmtD) (hty:Reads c 77 n (okAgg typeQ) (Px.typeF c.size n)) (hst:Reads c 105 m (okAgg stmtQ) S) (hsh:Shr S) (hstr:Strict S) (hm:ts.length<n) (hm2:ts.length<m) :
  Calls Tryz.prog 47 #[.pointer (some ⟨c.R,0,none⟩),.pointer (some ⟨b,0,none⟩)] w (RPB c b 52 w (okCells stmtQ) (Px.sendS o ts)):=by
 have HTY:Hid (Reads c 77 n (okAgg typeQ) (Px.typeF c.size n)):=hid hty
 have HST:Hid (Reads c 105 m (okAgg stmtQ) S):=hid hst
 have HSH:=hid hsh
 have HSTR:Hid (Strict S):=hid hstr
 clear hty hst hsh hstr
 have hmf:=make_func
 have H:=hid h
 have HD0:=hid hD
 have HR0:=H.out.lt.1
 have hb0:b≠c.R:=hap.1
 have hb1:b<w.heap.size:=hD.lt
 clear h hD
 go_enter Tryz.func47,Tryz.ntmps47
 go_wp2_with fail
 refine(name_any c ts _ (by exact H.out.frp hap frk)).mono ?_
 rintro e w1 hp
 rcases hp.cases with ⟨x1,ts1,v1,hq1,hf,hi,rfl,hv⟩|⟨ts1,hq1,hf,hi,rfl⟩
 ·clear hp
  obtain rfl:=hv
  have hT:Fr [c.R,b] w w1:=Fr.trans frk hf.wide
  have HD1:=hid (HD0.out.k hf)
  have HI1:=hid hi
  have HF1:=hid ((Fr.refl [c.R,b] w).trans hT)
  have hz1:=hf.size;try simp at hz1
  have hl1:ts1.length<ts.length:=Strict.name _ _ _ hq1.out
  clear hT hf hi
  have hlD:=HD1.out.lt
  obtain⟨d1,f1⟩:=HD1.out.df 1 (v:=.string ⟨#[]⟩) rfl
  go_wp2_with fail
  clear hlD d1 f1
  refine(name_any c ts1 _ (by exact HI1.out.frp hap frk)).mono ?_
  rintro e w2 hp
  rcases hp.cases with ⟨x2,ts2,v2,hq2,hf,hi,rfl,hv⟩|⟨ts2,hq2,hf,hi,rfl⟩
  ·clear hp
   obtain rfl:=hv
   have hT:Fr [c.R,b] w1 w2:=Fr.trans frk hf.wide
   have HD2:Hid (Blk w2 (b) 52 #[.int .i64 11,.string ⟨x1.toArray⟩,.slice none 0 0,.slice none 0 0,.int .i64 0,.string ⟨#[]⟩,.string ⟨#[]⟩,.string ⟨#[]⟩,.slice none 0 0,.int .i64 0,.slice none 0 0,.int .i64 0,.slice none 0 0,.slice none 0 0,.slice none 0 0,.slice none 0 0,.int .i64 o]):=hid ((HD1.out.set 1 (.string ⟨x1.toArray⟩)).k hf)
   have HI2:=hid hi
   have HF2:=hid (HF1.out.trans hT)
   have hz2:=hf.size;try simp at hz2
   have hl2:ts2.length<ts1.length:=Strict.name _ _ _ hq2.out
   clear hT hf hi
   have hlD:=HD2.out.lt
   obtain⟨d2,f2⟩:=HD2.out.df 2 (v:=.slice none 0 0) rfl
   go_wp2_with fail
   clear hlD d2 f2
   refine(expect_any c ts2 [[59]] _ _ 1 (by exact HI2.out.frp hap frk) rfl (by exact Blk.new_at (by simp)) rfl (by decide)).mono ?_
   rintro e w3 hp
   rcases hp.cases with ⟨x3,ts3,v3,hq3,hf,hi,rfl,hv⟩|⟨ts3,hq3,hf,hi,rfl⟩
   ·clear hp
    obtain rfl:=hv
    have hT:Fr [c.R,b] w2 w3:=Fr.trans frk hf.wide
    have HD3:Hid (Blk w3 (b) 52 #[.int .i64 11,.string ⟨x1.toArray⟩,.slice (some ⟨w2.heap.size,0,none⟩) 1 1,.slice none 0 0,.int .i64 0,.string ⟨#[]⟩,.string ⟨#[]⟩,.string ⟨#[]⟩,.slice none 0 0,.int .i64 0,.slice none 0 0,.int .i64 0,.slice none 0 0,.slice none 0 0,.slice none 0 0,.slice none 0 0,.int .i64 o]):=hid ((Blk.alloc (Blk.alloc (HD2.out.set 2 (.slice (some ⟨w2.heap.size,0,none⟩) 1 1)) _) _).k hf)
    have hN:Blk w3 (w2.heap.size) 9 #[.string ⟨x2.toArray⟩]:=Blk.keep (by repeat' (first|with_reducible refine Blk.new_at ?_|with_reducible refine Blk.alloc ?_ _|with_reducible refine Blk.other ?_ ?_ _|(simp;done)|(simp;omega))) hf (by simp;omega)
    have hNr:=strs_row (l:=[x2]) (b:=w.heap.size) hN (by omega) (by simp) (by simp)
    have HS_3:=hid hNr
    clear hN hNr
    have HI3:=hid hi
    have HF3:=hid (HF2.out.trans hT)
    have hz3:=hf.size;try simp at hz3
    have hl3:ts3.length≤ts2.length:=(Shr.expect _).ok hq3.out
    clear hT hf hi
    have hlD:=HD3.out.lt
    go_wp2_with fail
    clear hlD
    first|go_end0|refine bodyPost_ret (results_none rfl _ _ _) rfl ?_
    exact RPB.ok (cs:=[.int .i64 11,.string ⟨x1.toArray⟩,.slice (some ⟨w2.heap.size,0,none⟩) 1 1,.slice none 0 0,.int .i64 0,.string ⟨#[]⟩,.string ⟨#[]⟩,.string ⟨#[]⟩,.slice none 0 0,.int .i64 0,.slice none 0 0,.int .i64 0,.slice none 0 0,.slice none 0 0,.slice none 0 0,.slice none 0 0,.int .i64 o]) (by simp only[Px.sendS,bind,Px.Rd.bind,offset_res,if_true,if_false,Bool.false_eq_true,hq1.out,hq2.out,hq3.out] <;> rfl) (HF3.out.trans frk) (HI3.out.frp hap frk) HD3.out (by unfold okCells;rw[stmtQ_mk];exact rep_int.2 ⟨_,rfl,rep_str.2 ⟨_,rfl,rep_sl.2 ⟨_,_,rfl,(row_own (b:=w.heap.size) HS_3.out (by first|omega|(simp;done)|(simp;omega)) (X:=[b]) frk (by first|omega|(simp;done)|(simp;omega))),rep_sl.2 ⟨_,_,rfl,RowV.nil _ _ _ _,Rep.app (cs:=[.int .i64 0,.string ⟨#[]⟩,.string ⟨#[]⟩,.string ⟨#[]⟩,.slice none 0 0,.int .i64 0,.slice none 0 0,.int .i64 0]) expr0_rep (rep_sl.2 ⟨_,_,rfl,RowV.nil _ _ _ _,rep_sl.2 ⟨_,_,rfl,RowV.nil _ _ _ _,rep_sl.2 ⟨_,_,rfl,RowV.nil _ _ _ _,rep_sl.2 ⟨_,_,rfl,RowV.nil _ _ _ _,rep_int.2 ⟨_,rfl,rep_nil.2 rfl⟩⟩⟩⟩⟩)⟩⟩⟩⟩)
   ·go_wp2_with fail
    exact⟨rfl,RPB.bad (by simp only[Px.sendS,bind,Px.Rd.bind,offset_res,if_true,if_false,Bool.false_eq_true,hq1.out,hq2.out,hq3.out]) (HF2.out.trans (Fr.trans frk hf.wide)) hi⟩
  ·go_wp2_with fail
   exact⟨rfl,RPB.bad (by simp only[Px.sendS,bind,Px.Rd.bind,offset_res,if_true,if_false,Bool.false_eq_true,hq1.out,hq2.out]) (HF1.out.trans (Fr.trans frk hf.wide)) hi⟩
 ·go_wp2_with fail
  exact⟨rfl,RPB.bad (by simp only[Px.sendS,bind,Px.Rd.bind,offset_res,if_true,if_false,Bool.false_eq_true,hq1.out]) ((Fr.refl [c.R,b] w).trans (Fr.trans frk hf.wide)) hi⟩
set_option maxRecDepth 100000 in
set_option maxHeartbeats 1600000 in
theorem spawn_any (c:Ctx) (o:Nat) (ts:List Tk) (w:World) (h:Inv c ts w) (b:Nat) (hap:c.Apart b) (hD:Blk w b 52 #[.int .i64 12,.string ⟨#[]⟩,.slice none 0 0,.slice none 0 0,.int .i64 0,.string ⟨#[]⟩,.string ⟨#[]⟩,.string ⟨#[]⟩,.slice none 0 0,.int .i64 0,.slice none 0 0,.int .i64 0,.slice none 0 0,.slice none 0 0,.slice none 0 0,.slice none 0 0,.int .i64 o]) (n m:Nat) (S:Px.Rd StmtD) (hty:Reads c 77 n (okAgg typeQ) (Px.typeF c.size n)) (hst:Reads c 105 m (okAgg stmtQ) S) (hsh:Shr S) (hstr:Strict S) (hm:ts.length<n) (hm2:ts.length<m) :
  Calls Tryz.prog 48 #[.pointer (some ⟨c.R,0,none⟩),.pointer (some ⟨b,0,none⟩)] w (RPB c b 52 w (okCells stmtQ) (Px.spawnS o ts)):=by
 have HTY:Hid (Reads c 77 n (okAgg typeQ) (Px.typeF c.size n)):=hid hty
 have HST:Hid (Reads c 105 m (okAgg stmtQ) S):=hid hst
 have HSH:=hid hsh
 have HSTR:Hid (Strict S):=hid hstr
 clear hty hst hsh hstr
 have hmf:=make_func
 have H:=hid h
 have HD0:=hid hD
 have HR0:=H.out.lt.1
 have hb0:b≠c.R:=hap.1
 have hb1:b<w.heap.size:=hD.lt
 clear h hD
 go_enter Tryz.func48,Tryz.ntmps48
 go_wp2_with fail
 refine(name_any c ts _ (by exact H.out.frp hap frk)).mono ?_
 rintro e w1 hp
 rcases hp.cases with ⟨x1,ts1,v1,hq1,hf,hi,rfl,hv⟩|⟨ts1,hq1,hf,hi,rfl⟩
 ·clear hp
  obtain rfl:=hv
  have hT:Fr [c.R,b] w w1:=Fr.trans frk hf.wide
  have HD1:=hid (HD0.out.k hf)
  have HI1:=hid hi
  have HF1:=hid ((Fr.refl [c.R,b] w).trans hT)
  have hz1:=hf.size;try simp at hz1
  have hl1:ts1.length<ts.length:=Strict.name _ _ _ hq1.out
  clear hT hf hi
  have hlD:=HD1.out.lt
  obtain⟨d1,f1⟩:=HD1.out.df 1 (v:=.string ⟨#[]⟩) rfl
  go_wp2_with fail
  clear hlD d1 f1
  refine(pos_str c _ (ts1.length+1) _ enters_name (reads_name c _) Shr.name [40] [41] (by decide) (by decide) ts1 _ (by exact HI1.out.frp hap frk) (by omega)).mono ?_
  rintro e w2 hp
  rcases hp.cases with ⟨x2,ts2,v2,hq2,hf,hi,rfl,hv⟩|⟨ts2,hq2,hf,hi,rfl⟩
  ·clear hp
   obtain⟨p2,n2,k2,rfl⟩:=row_shp hv
   have hV2:=row_own (b:=w.heap.size) hv (by first|omega|(simp;done)|(simp;omega)) (Fr.refl [] _) (by simp)
   have hT:Fr [c.R,b] w1 w2:=Fr.trans frk hf.wide
   have HD2:Hid (Blk w2 (b) 52 #[.int .i64 12,.string ⟨x1.toArray⟩,.slice none 0 0,.slice none 0 0,.int .i64 0,.string ⟨#[]⟩,.string ⟨#[]⟩,.string ⟨#[]⟩,.slice none 0 0,.int .i64 0,.slice none 0 0,.int .i64 0,.slice none 0 0,.slice none 0 0,.slice none 0 0,.slice none 0 0,.int .i64 o]):=hid ((HD1.out.set 1 (.string ⟨x1.toArray⟩)).k hf)
   have HI2:=hid hi
   have HF2:=hid (HF1.out.trans hT)
   have hz2:=hf.size;try simp at hz2
   have HV2:=hid hV2
   have hl2:ts2.length≤ts1.length:=(Shr.pos Shr.name _ _).ok hq2.out
   clear hT hf hi hV2 hv
   have hlD:=HD2.out.lt
   obtain⟨d2,f2⟩:=HD2.out.df 2 (v:=.slice none 0 0) rfl
   go_wp2_with fail
   clear hlD d2 f2
   refine(expect_any c ts2 [[59]] _ _ 1 (by exact HI2.out.frp hap frk) rfl (by exact Blk.new_at (by simp)) rfl (by decide)).mono ?_
   rintro e w3 hp
   rcases hp.cases with ⟨x3,ts3,v3,hq3,hf,hi,rfl,hv⟩|⟨ts3,hq3,hf,hi,rfl⟩
   ·clear hp
    obtain rfl:=hv
    have hT:Fr [c.R,b] w2 w3:=Fr.trans frk hf.wide
    have HD3:Hid (Blk w3 (b) 52 #[.int .i64 12,.string ⟨x1.toArray⟩,.slice p2 n2 k2,.slice none 0 0,.int .i64 0,.string ⟨#[]⟩,.string ⟨#[]⟩,.string ⟨#[]⟩,.slice none 0 0,.int .i64 0,.slice none 0 0,.int .i64 0,.slice none 0 0,.slice none 0 0,.slice none 0 0,.slice none 0 0,.int .i64 o]):=hid ((Blk.alloc (HD2.out.set 2 (.slice p2 n2 k2)) _).k hf)
    have HV2_3:=hid (row_own HV2.out (Nat.le_refl _) hT (by simp;omega))
    have HI3:=hid hi
    have HF3:=hid (HF2.out.trans hT)
    have hz3:=hf.size;try simp at hz3
    have hl3:ts3.length≤ts2.length:=(Shr.expect _).ok hq3.out
    clear hT hf hi
    have hlD:=HD3.out.lt
    go_wp2_with fail
    clear hlD
    first|go_end0|refine bodyPost_ret (results_none rfl _ _ _) rfl ?_
    exact RPB.ok (cs:=[.int .i64 12,.string ⟨x1.toArray⟩,.slice p2 n2 k2,.slice none 0 0,.int .i64 0,.string ⟨#[]⟩,.string ⟨#[]⟩,.string ⟨#[]⟩,.slice none 0 0,.int .i64 0,.slice none 0 0,.int .i64 0,.slice none 0 0,.slice none 0 0,.slice none 0 0,.slice none 0 0,.int .i64 o]) (by simp only[Px.spawnS,bind,Px.Rd.bind,offset_res,if_true,if_false,Bool.false_eq_true,hq1.out,hq2.out,hq3.out] <;> rfl) (HF3.out.trans frk) (HI3.out.frp hap frk) HD3.out (by unfold okCells;rw[stmtQ_mk];exact rep_int.2 ⟨_,rfl,rep_str.2 ⟨_,rfl,rep_sl.2 ⟨_,_,rfl,(row_own (b:=w.heap.size) HV2_3.out (by first|omega|(simp;done)|(simp;omega)) (X:=[b]) frk (by first|omega|(simp;done)|(simp;omega))),rep_sl.2 ⟨_,_,rfl,RowV.nil _ _ _ _,Rep.app (cs:=[.int .i64 0,.string ⟨#[]⟩,.string ⟨#[]⟩,.string ⟨#[]⟩,.slice none 0 0,.int .i64 0,.slice none 0 0,.int .i64 0]) expr0_rep (rep_sl.2 ⟨_,_,rfl,RowV.nil _ _ _ _,rep_sl.2 ⟨_,_,rfl,RowV.nil _ _ _ _,rep_sl.2 ⟨_,_,rfl,RowV.nil _ _ _ _,rep_sl.2 ⟨_,_,rfl,RowV.nil _ _ _ _,rep_int.2 ⟨_,rfl,rep_nil.2 rfl⟩⟩⟩⟩⟩)⟩⟩⟩⟩)
   ·go_wp2_with fail
    exact⟨rfl,RPB.bad (by simp only[Px.spawnS,bind,Px.Rd.bind,offset_res,if_true,if_false,Bool.false_eq_true,hq1.out,hq2.out,hq3.out]) (HF2.out.trans (Fr.trans frk hf.wide)) hi⟩
  ·go_wp2_with fail
   exact⟨rfl,RPB.bad (by simp only[Px.spawnS,bind,Px.Rd.bind,offset_res,if_true,if_false,Bool.false_eq_true,hq1.out,hq2.out]) (HF1.out.trans (Fr.trans frk hf.wide)) hi⟩
 ·go_wp2_with fail
  exact⟨rfl,RPB.bad (by simp only[Px.spawnS,bind,Px.Rd.bind,offset_res,if_true,if_false,Bool.false_eq_true,hq1.out]) ((Fr.refl [c.R,b] w).trans (Fr.trans frk hf.wide)) hi⟩
set_option maxRecDepth 100000 in
set_option maxHeartbeats 1600000 in
theorem set_any (c:Ctx) (o:Nat) (ts:List Tk) (w:World) (h:Inv c ts w) (b:Nat) (hap:c.Apart b) (hD:Blk w b 52 #[.int .i64 0,.string ⟨#[]⟩,.slice none 0 0,.slice none 0 0,.int .i64 0,.string ⟨#[]⟩,.string ⟨#[]⟩,.string ⟨#[]⟩,.slice none 0 0,.int .i64 0,.slice none 0 0,.int .i64 0,.slice none 0 0,.slice none 0 0,.slice none 0 0,.slice none 0 0,.int .i64 o]) (n:Nat) (hty:Reads c 77 n (okAgg typeQ) (Px.typeF c.size n)) (hm:ts.length<n) :
  Calls Tryz.prog 134 #[.pointer (some ⟨c.R,0,none⟩),.pointer (some ⟨b,0,none⟩)] w (RPB c b 52 w (okCells stmtQ) (Px.setS c.size n o ts)):=by
 have HTY:Hid (Reads c 77 n (okAgg typeQ) (Px.typeF c.size n)):=hid hty
 clear hty
 have H:=hid h
 have HD0:=hid hD
 have HR0:=H.out.lt.1
 have hb0:b≠c.R:=hap.1
 have hb1:b<w.heap.size:=hD.lt
 clear h hD
 go_enter Tryz.func134,Tryz.ntmps134
 have hlD:=HD0.out.lt
 obtain⟨d0,f0⟩:=HD0.out.df 0 (v:=.int .i64 0) rfl
 go_wp2_with fail
 clear hlD d0 f0
 refine(name_any c ts _ (by exact H.out.frp hap frk)).mono ?_
 rintro e w1 hp
 rcases hp.cases with ⟨x1,ts1,v1,hq1,hf,hi,rfl,hv⟩|⟨ts1,hq1,hf,hi,rfl⟩
 ·clear hp
  obtain rfl:=hv
  have hT:Fr [c.R,b] w w1:=Fr.trans frk hf.wide
  have HD1:Hid (Blk w1 (b) 52 #[.int .i64 2,.string ⟨#[]⟩,.slice none 0 0,.slice none 0 0,.int .i64 0,.string ⟨#[]⟩,.string ⟨#[]⟩,.string ⟨#[]⟩,.slice none 0 0,.int .i64 0,.slice none 0 0,.int .i64 0,.slice none 0 0,.slice none 0 0,.slice none 0 0,.slice none 0 0,.int .i64 o]):=hid ((HD0.out.set 0 (.int .i64 2)).k hf)
  have HI1:=hid hi
  have HF1:=hid ((Fr.refl [c.R,b] w).trans hT)
  have hz1:=hf.size;try simp at hz1
  have hl1:ts1.length<ts.length:=Strict.name _ _ _ hq1.out
  clear hT hf hi
  have hlD:=HD1.out.lt
  obtain⟨d1,f1⟩:=HD1.out.df 1 (v:=.string ⟨#[]⟩) rfl
  go_wp2_with fail
  clear hlD d1 f1
  refine(expect_any c ts1 [[61]] _ _ 1 (by exact HI1.out.frp hap frk) rfl (by exact Blk.new_at (by simp)) rfl (by decide)).mono ?_
  rintro e w2 hp
  rcases hp.cases with ⟨x2,ts2,v2,hq2,hf,hi,rfl,hv⟩|⟨ts2,hq2,hf,hi,rfl⟩
  ·clear hp
   obtain rfl:=hv
   have hT:Fr [c.R,b] w1 w2:=Fr.trans frk hf.wide
   have HD2:Hid (Blk w2 (b) 52 #[.int .i64 2,.string ⟨x1.toArray⟩,.slice none 0 0,.slice none 0 0,.int .i64 0,.string ⟨#[]⟩,.string ⟨#[]⟩,.string ⟨#[]⟩,.slice none 0 0,.int .i64 0,.slice none 0 0,.int .i64 0,.slice none 0 0,.slice none 0 0,.slice none 0 0,.slice none 0 0,.int .i64 o]):=hid ((Blk.alloc (HD1.out.set 1 (.string ⟨x1.toArray⟩)) _).k hf)
   have HI2:=hid hi
   have HF2:=hid (HF1.out.trans hT)
   have hz2:=hf.size;try simp at hz2
   have hl2:ts2.length≤ts1.length:=(Shr.expect _).ok hq2.out
   clear hT hf hi
   have hlD:=HD2.out.lt
   go_wp2_with fail
   clear hlD
   refine(expr_any c ts2 _ (by exact HI2.out.frp hap frk) n HTY.out (by omega)).mono ?_
   rintro e w3 hp
   rcases hp.cases with ⟨x3,ts3,v3,hq3,hf,hi,rfl,hv⟩|⟨ts3,hq3,hf,hi,rfl⟩
   ·clear hp
    obtain⟨cs,rfl,hrep⟩:=hv
    obtain⟨i3_0,s3_1,s3_2,s3_3,p3_4,n3_4,c3_4,i3_5,p3_6,n3_6,c3_6,i3_7,rfl⟩:=hrep.c_exprQ
    have hV3:Rep w3 (fun k=>w.heap.size≤k) _ _:=hrep.mono (fun k hk _=>⟨by (try simp at hk);omega,rfl⟩)
    have hT:Fr [c.R,b] w2 w3:=Fr.trans frk hf.wide
    have HD3:=hid (HD2.out.k hf)
    have HI3:=hid hi
    have HF3:=hid (HF2.out.trans hT)
    have hz3:=hf.size;try simp at hz3
    have HV3:=hid hV3
    have hl3:ts3.length≤ts2.length:=(shr_expr _ _).ok hq3.out
    clear hT hf hi hV3 hrep
    have hlD:=HD3.out.lt
    obtain⟨d4,f4⟩:=HD3.out.df 4 (v:=.int .i64 0) rfl
    obtain⟨d5,f5⟩:=HD3.out.df 5 (v:=.string ⟨#[]⟩) rfl
    obtain⟨d6,f6⟩:=HD3.out.df 6 (v:=.string ⟨#[]⟩) rfl
    obtain⟨d7,f7⟩:=HD3.out.df 7 (v:=.string ⟨#[]⟩) rfl
    obtain⟨d8,f8⟩:=HD3.out.df 8 (v:=.slice none 0 0) rfl
    obtain⟨d9,f9⟩:=HD3.out.df 9 (v:=.int .i64 0) rfl
    obtain⟨d10,f10⟩:=HD3.out.df 10 (v:=.slice none 0 0) rfl
    obtain⟨d11,f11⟩:=HD3.out.df 11 (v:=.int .i64 0) rfl
    go_wp2_with fail
    clear hlD d4 d5 d6 d7 d8 d9 d10 d11 f4 f5 f6 f7 f8 f9 f10 f11
    refine(expect_any c ts3 [[59]] _ _ 1 (by exact HI3.out.frp hap frk) rfl (by exact Blk.new_at (by simp)) rfl (by decide)).mono ?_
    rintro e w4 hp
    rcases hp.cases with ⟨x4,ts4,v4,hq4,hf,hi,rfl,hv⟩|⟨ts4,hq4,hf,hi,rfl⟩
    ·clear hp
     obtain rfl:=hv
     have hT:Fr [c.R,b] w3 w4:=Fr.trans frk hf.wide
     have HD4:Hid (Blk w4 (b) 52 #[.int .i64 2,.string ⟨x1.toArray⟩,.slice none 0 0,.slice none 0 0,.int .i64 i3_0,.string s3_1,.string s3_2,.string s3_3,.slice p3_4 n3_4 c3_4,.int .i64 i3_5,.slice p3_6 n3_6 c3_6,.int .i64 i3_7,.slice none 0 0,.slice none 0 0,.slice none 0 0,.slice none 0 0,.int .i64 o]):=hid ((Blk.alloc (blk_expr HD3.out (.int .i64 i3_0) (.string s3_1) (.string s3_2) (.string s3_3) (.slice p3_4 n3_4 c3_4) (.int .i64 i3_5) (.slice p3_6 n3_6 c3_6) (.int .i64 i3_7)) _).k hf)
     have HV3_4:=hid (rep_own HV3.out hT (by simp;omega))
     have HI4:=hid hi
     have HF4:=hid (HF3.out.trans hT)
     have hz4:=hf.size;try simp at hz4
     have hl4:ts4.length≤ts3.length:=(Shr.expect _).ok hq4.out
     clear hT hf hi
     have hlD:=HD4.out.lt
     go_wp2_with fail
     clear hlD
     first|go_end0|refine bodyPost_ret (results_none rfl _ _ _) rfl ?_
     exact RPB.ok (cs:=[.int .i64 2,.string ⟨x1.toArray⟩,.slice none 0 0,.slice none 0 0,.int .i64 i3_0,.string s3_1,.string s3_2,.string s3_3,.slice p3_4 n3_4 c3_4,.int .i64 i3_5,.slice p3_6 n3_6 c3_6,.int .i64 i3_7,.slice none 0 0,.slice none 0 0,.slice none 0 0,.slice none 0 0,.int .i64 o]) (by simp only[Px.setS,bind,Px.Rd.bind,offset_res,if_true,if_false,Bool.false_eq_true,hq1.out,hq2.out,hq3.out,hq4.out] <;> rfl) (HF4.out.trans frk) (HI4.out.frp hap frk) HD4.out (by unfold okCells;rw[stmtQ_mk];exact rep_int.2 ⟨_,rfl,rep_str.2 ⟨_,rfl,rep_sl.2 ⟨_,_,rfl,RowV.nil _ _ _ _,rep_sl.2 ⟨_,_,rfl,RowV.nil _ _ _ _,Rep.app (cs:=[.int .i64 i3_0,.string s3_1,.string s3_2,.string s3_3,.slice p3_4 n3_4 c3_4,.int .i64 i3_5,.slice p3_6 n3_6 c3_6,.int .i64 i3_7]) (rep_own (b:=w.heap.size) HV3_4.out (X:=[b]) frk (by first|omega|(simp;done)|(simp;omega)) (by first|omega|(simp;done)|(simp;omega))) (rep_sl.2 ⟨_,_,rfl,RowV.nil _ _ _ _,rep_sl.2 ⟨_,_,rfl,RowV.nil _ _ _ _,rep_sl.2 ⟨_,_,rfl,RowV.nil _ _ _ _,rep_sl.2 ⟨_,_,rfl,RowV.nil _ _ _ _,rep_int.2 ⟨_,rfl,rep_nil.2 rfl⟩⟩⟩⟩⟩)⟩⟩⟩⟩)
    ·go_wp2_with fail
     exact⟨rfl,RPB.bad (by simp only[Px.setS,bind,Px.Rd.bind,offset_res,if_true,if_false,Bool.false_eq_true,hq1.out,hq2.out,hq3.out,hq4.out]) (HF3.out.trans (Fr.trans frk hf.wide)) hi⟩
   ·go_wp2_with fail
    exact⟨rfl,RPB.bad (by simp only[Px.setS,bind,Px.Rd.bind,offset_res,if_true,if_false,Bool.false_eq_true,hq1.out,hq2.out,hq3.out]) (HF2.out.trans (Fr.trans frk hf.wide)) hi⟩
  ·go_wp2_with fail
   exact⟨rfl,RPB.bad (by simp only[Px.setS,bind,Px.Rd.bind,offset_res,if_true,if_false,Bool.false_eq_true,hq1.out,hq2.out]) (HF1.out.trans (Fr.trans frk hf.wide)) hi⟩
 ·go_wp2_with fail
  exact⟨rfl,RPB.bad (by simp only[Px.setS,bind,Px.Rd.bind,offset_res,if_true,if_false,Bool.false_eq_true,hq1.out]) ((Fr.refl [c.R,b] w).trans (Fr.trans frk hf.wide)) hi⟩
set_option maxRecDepth 100000 in
set_option maxHeartbeats 1600000 in
theorem local_any (c:Ctx) (o:Nat) (ts:List Tk) (w:World) (h:Inv c ts w) (b:Nat) (hap:c.Apart b) (hD:Blk w b 52 #[.int .i64 13,.string ⟨#[]⟩,.slice none 0 0,.slice none 0 0,.int .i64 0,.string ⟨#[]⟩,.string ⟨#[]⟩,.string ⟨#[]⟩,.slice none 0 0,.int .i64 0,.slice none 0 0,.int .i64 0,.slice none 0 0,.slice none 0 0,.slice none 0 0,.slice none 0 0,.int .i64 o]) (n m:Nat) (S:Px.Rd StmtD) (hty:Reads c 77 n (okAgg typeQ) (Px.typeF c.size n)) (hst:Reads c 105 m (okAgg stmtQ) S) (hsh:Shr S) (hstr:Strict S) (hm:ts.length<n) (hm2:ts.length<m) :
  Calls Tryz.prog 49 #[.pointer (some ⟨c.R,0,none⟩),.pointer (some ⟨b,0,none⟩)] w (RPB c b 52 w (okCells stmtQ) (Px.localS c.size n S o ts)):=by
 have HTY:Hid (Reads c 77 n (okAgg typeQ) (Px.typeF c.size n)):=hid hty
 have HST:Hid (Reads c 105 m (okAgg stmtQ) S):=hid hst
 have HSH:=hid hsh
 have HSTR:Hid (Strict S):=hid hstr
 clear hty hst hsh hstr
 have hmf:=make_func
 have H:=hid h
 have HD0:=hid hD
 have HR0:=H.out.lt.1
 have hb0:b≠c.R:=hap.1
 have hb1:b<w.heap.size:=hD.lt
 clear h hD
 go_enter Tryz.func49,Tryz.ntmps49
 have hlD:=HD0.out.lt
 have d16:=HD0.out.at 16 (v:=.int .i64 o) rfl
 go_wp2_with fail
 clear hlD d16
 refine(localFunction_any c o ts _ (by exact H.out.frp hap frk) n m S HTY.out HST.out HSH.out HSTR.out (by omega) (by omega)).mono ?_
 rintro e w1 hp
 rcases hp.cases with ⟨x1,ts1,v1,hq1,hf,hi,rfl,hv⟩|⟨ts1,hq1,hf,hi,rfl⟩
 ·clear hp
  obtain⟨cs,rfl,hrep⟩:=hv
  obtain⟨s1_0,p1_1,n1_1,c1_1,p1_2,n1_2,c1_2,p1_3,n1_3,c1_3,p1_4,n1_4,c1_4,s1_5,p1_6,n1_6,c1_6,i1_7,p1_8,n1_8,c1_8,i1_9,rfl⟩:=hrep.c_funcQ
  have hV1:Rep w1 (fun k=>w.heap.size≤k) _ _:=hrep.mono (fun k hk _=>⟨by (try simp at hk);omega,rfl⟩)
  have hT:Fr [c.R,b] w w1:=Fr.trans frk hf.wide
  have HD1:=hid (HD0.out.k hf)
  have HI1:=hid hi
  have HF1:=hid ((Fr.refl [c.R,b] w).trans hT)
  have hz1:=hf.size;try simp at hz1
  have HV1:=hid hV1
  have hl1:ts1.length≤ts.length:=(shr_local _ _ _ HSH.out).ok hq1.out
  clear hT hf hi hV1 hrep
  have hlD:=HD1.out.lt
  obtain⟨d15,f15⟩:=HD1.out.df 15 (v:=.slice none 0 0) rfl
  go_wp2_with fail
  clear hlD d15 f15
  first|go_end0|refine bodyPost_ret (results_none rfl _ _ _) rfl ?_
  exact RPB.ok (cs:=[.int .i64 13,.string ⟨#[]⟩,.slice none 0 0,.slice none 0 0,.int .i64 0,.string ⟨#[]⟩,.string ⟨#[]⟩,.string ⟨#[]⟩,.slice none 0 0,.int .i64 0,.slice none 0 0,.int .i64 0,.slice none 0 0,.slice none 0 0,.slice none 0 0,.slice (some ⟨w1.heap.size,0,none⟩) 1 1,.int .i64 o]) (by simp only[Px.localS,bind,Px.Rd.bind,offset_res,if_true,if_false,Bool.false_eq_true,hq1.out] <;> rfl) (HF1.out.trans frk) (HI1.out.frp hap frk) (Blk.alloc (HD1.out.set 15 (.slice (some ⟨w1.heap.size,0,none⟩) 1 1)) _) (by unfold okCells;rw[stmtQ_mk];exact rep_int.2 ⟨_,rfl,rep_str.2 ⟨_,rfl,rep_sl.2 ⟨_,_,rfl,RowV.nil _ _ _ _,rep_sl.2 ⟨_,_,rfl,RowV.nil _ _ _ _,Rep.app (cs:=[.int .i64 0,.string ⟨#[]⟩,.string ⟨#[]⟩,.string ⟨#[]⟩,.slice none 0 0,.int .i64 0,.slice none 0 0,.int .i64 0]) expr0_rep (rep_sl.2 ⟨_,_,rfl,RowV.nil _ _ _ _,rep_sl.2 ⟨_,_,rfl,RowV.nil _ _ _ _,rep_sl.2 ⟨_,_,rfl,RowV.nil _ _ _ _,rep_sl.2 ⟨_,_,rfl,(row_one (b:=w.heap.size) (w:=_) (g:=w1.heap.size) (xs:=[.string s1_0,.slice p1_1 n1_1 c1_1,.slice p1_2 n1_2 c1_2,.slice p1_3 n1_3 c1_3,.slice p1_4 n1_4 c1_4,.string s1_5,.slice p1_6 n1_6 c1_6,.int .i64 i1_7,.slice p1_8 n1_8 c1_8,.int .i64 i1_9]) (by repeat' (first|with_reducible refine Blk.new_at ?_|with_reducible refine Blk.alloc ?_ _|with_reducible refine Blk.other ?_ ?_ _|(simp;done)|(simp;omega))) (by omega) rfl (rep_own HV1.out (X:=[b]) frk (by first|omega|(simp;done)|(simp;omega)) (by first|omega|(simp;done)|(simp;omega)))),rep_int.2 ⟨_,rfl,rep_nil.2 rfl⟩⟩⟩⟩⟩)⟩⟩⟩⟩)
 ·go_wp2_with fail
  exact⟨rfl,RPB.bad (by simp only[Px.localS,bind,Px.Rd.bind,offset_res,if_true,if_false,Bool.false_eq_true,hq1.out]) ((Fr.refl [c.R,b] w).trans (Fr.trans frk hf.wide)) hi⟩
end Go.Proofs.YtghohohagbbajaaGreatDoor
