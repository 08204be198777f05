/- part of the proof -/
import Derived.Test.YtghohohagbbajaaGreatDoorYO
import Derived.Test.YtghohohagbbajaaGreatDoorYGF5
set_option linter.unusedVariables false
set_option linter.unusedSimpArgs false
set_option linter.unusedSectionVars false
namespace Go.Proofs.YtghohohagbbajaaGreatDoor
open Go.RowKit Go.Lib
open Lx (Tk)
open Px (Txt TyE VarD DataD TraitD BoundD ImplD ArgD ExprD StmtD ArmD FuncD ModD)
def okSig (e0 e1 e2 e3 e8 e9:Value):Nat→(List ArgD × TyE)→World→List Value→Prop:=fun B a w cs =>
 ∃ p n k s p' n' k' i,cs=[e0,e1,e2,e3,.slice p n k,.string s,.slice p' n' k',.int .i64 i,e8,e9]∧okRow 155 6 argQ B a.1 w (.slice p n k)∧Rep w (fun k=>B≤k) (typeQ a.2) [.string s,.slice p' n' k',.int .i64 i]
theorem reads_arg (c:Ctx) (n:Nat) (hty:Reads c 77 n (okAgg typeQ) (Px.typeF c.size n)):Reads c 137 n (okAgg argQ) (Px.arg c.size n):=fun ts w h hm=>arg_any c ts w h n hty hm
theorem reads_capture (c:Ctx) (n:Nat) (hty:Reads c 77 n (okAgg typeQ) (Px.typeF c.size n)):Reads c 109 n (okAgg argQ) (Px.capture c.size n):=fun ts w h hm=>capture_any c ts w h n hty hm
theorem reads_variant (c:Ctx) (n:Nat) (hty:Reads c 77 n (okAgg typeQ) (Px.typeF c.size n)):Reads c 116 n (okAgg varQ) (Px.variant c.size n):=fun ts w h hm=>variant_any c ts w h n hty hm
set_option maxRecDepth 100000 in
set_option maxHeartbeats 1600000 in
theorem signature_any (c:Ctx) (e0 e1 e2 e3 e8 e9:Value) (ts:List Tk) (w:World) (h:Inv c ts w) (b:Nat) (hap:c.Apart b) (hD:Blk w b 42 #[e0,e1,e2,e3,.slice none 0 0,.string ⟨#[]⟩,.slice none 0 0,.int .i64 0,e8,e9]) (n:Nat) (hty:Reads c 77 n (okAgg typeQ) (Px.typeF c.size n)) (hm:ts.length<n) :
  Calls Tryz.prog 110 #[.pointer (some ⟨c.R,0,none⟩),.pointer (some ⟨b,0,none⟩)] w (RPB c b 42 w (okSig e0 e1 e2 e3 e8 e9) (Px.signature c.size n ts)):=by
 have HTY:Hid (Reads c 77 n (okAgg typeQ) (Px.typeF c.size n)):=hid hty
 clear hty
 have hmf:=make_func
 have H:=hid h
 have HD0:=hid hD
 have HR0:=H.out.lt.1
 have hb0:b≠c.R:=hap.1
 have hb1:b<w.heap.size:=hD.lt
 clear h hD
 go_enter Tryz.func110,Tryz.ntmps110
 go_wp2_with fail
 refine(pos_arg c _ n _ enters_arg (reads_arg c n HTY.out) (shr_arg _ _) [40] [41] (by decide) (by decide) ts _ (by exact H.out.frp hap frk) (by omega)).mono ?_
 rintro e w1 hp
 rcases hp.cases with ⟨x1,ts1,v1,hq1,hf,hi,rfl,hv⟩|⟨ts1,hq1,hf,hi,rfl⟩
 ·clear hp
  obtain⟨p1,n1,k1,rfl⟩:=row_shp hv
  have hV1:=row_own (b:=w.heap.size) hv (by first|omega|(simp;done)|(simp;omega)) (Fr.refl [] _) (by simp)
  have hT:Fr [c.R,b] w w1:=Fr.trans frk hf.wide
  have HD1:=hid (HD0.out.k hf)
  have HI1:=hid hi
  have HF1:=hid ((Fr.refl [c.R,b] w).trans hT)
  have hz1:=hf.size;try simp at hz1
  have HV1:=hid hV1
  have hl1:ts1.length≤ts.length:=(Shr.pos (shr_arg _ _) _ _).ok hq1.out
  clear hT hf hi hV1 hv
  have hlD:=HD1.out.lt
  obtain⟨d4,f4⟩:=HD1.out.df 4 (v:=.slice none 0 0) rfl
  go_wp2_with fail
  clear hlD d4 f4
  refine(expect_any c ts1 [[45,62]] _ _ 1 (by exact HI1.out.frp hap frk) rfl (by exact Blk.new_at (by simp)) rfl (by decide)).mono ?_
  rintro e w2 hp
  rcases hp.cases with ⟨x2,ts2,v2,hq2,hf,hi,rfl,hv⟩|⟨ts2,hq2,hf,hi,rfl⟩
  ·clear hp
   obtain rfl:=hv
   have hT:Fr [c.R,b] w1 w2:=Fr.trans frk hf.wide
   have HD2:Hid (Blk w2 (b) 42 #[e0,e1,e2,e3,.slice p1 n1 k1,.string ⟨#[]⟩,.slice none 0 0,.int .i64 0,e8,e9]):=hid ((Blk.alloc (HD1.out.set 4 (.slice p1 n1 k1)) _).k hf)
   have HV1_2:=hid (row_own HV1.out (Nat.le_refl _) hT (by simp;omega))
   have HI2:=hid hi
   have HF2:=hid (HF1.out.trans hT)
   have hz2:=hf.size;try simp at hz2
   have hl2:ts2.length≤ts1.length:=(Shr.expect _).ok hq2.out
   clear hT hf hi
   have hlD:=HD2.out.lt
   go_wp2_with fail
   clear hlD
   refine(HTY.out ts2 _ (by exact HI2.out.frp hap frk) (by omega)).mono ?_
   rintro e w3 hp
   rcases hp.cases with ⟨x3,ts3,v3,hq3,hf,hi,rfl,hv⟩|⟨ts3,hq3,hf,hi,rfl⟩
   ·clear hp
    obtain⟨cs,rfl,hrep⟩:=hv
    obtain⟨s3_0,p3_1,n3_1,c3_1,i3_2,rfl⟩:=hrep.c_typeQ
    have hV3:Rep w3 (fun k=>w.heap.size≤k) _ _:=hrep.mono (fun k hk _=>⟨by (try simp at hk);omega,rfl⟩)
    have hT:Fr [c.R,b] w2 w3:=Fr.trans frk hf.wide
    have HD3:=hid (HD2.out.k hf)
    have HV1_3:=hid (row_own HV1_2.out (Nat.le_refl _) hT (by simp;omega))
    have HI3:=hid hi
    have HF3:=hid (HF2.out.trans hT)
    have hz3:=hf.size;try simp at hz3
    have HV3:=hid hV3
    have hl3:ts3.length≤ts2.length:=(shr_typeF _ _).ok hq3.out
    clear hT hf hi hV3 hrep
    have hlD:=HD3.out.lt
    obtain⟨d5,f5⟩:=HD3.out.df 5 (v:=.string ⟨#[]⟩) rfl
    obtain⟨d6,f6⟩:=HD3.out.df 6 (v:=.slice none 0 0) rfl
    obtain⟨d7,f7⟩:=HD3.out.df 7 (v:=.int .i64 0) rfl
    go_wp2_with fail
    clear hlD d5 d6 d7 f5 f6 f7
    first|go_end0|refine bodyPost_ret (results_none rfl _ _ _) rfl ?_
    exact RPB.ok (cs:=[e0,e1,e2,e3,.slice p1 n1 k1,.string s3_0,.slice p3_1 n3_1 c3_1,.int .i64 i3_2,e8,e9]) (by simp only[Px.signature,bind,Px.Rd.bind,offset_res,if_true,if_false,Bool.false_eq_true,hq1.out,hq2.out,hq3.out] <;> rfl) (HF3.out.trans frk) (HI3.out.frp hap frk) (((HD3.out.set 5 (.string s3_0)).set 6 (.slice p3_1 n3_1 c3_1)).set 7 (.int .i64 i3_2)) (⟨_,_,_,_,_,_,_,_,rfl,(row_own (b:=w.heap.size) HV1_3.out (by first|omega|(simp;done)|(simp;omega)) (X:=[b]) frk (by first|omega|(simp;done)|(simp;omega))),(rep_own (b:=w.heap.size) HV3.out (X:=[b]) frk (by first|omega|(simp;done)|(simp;omega)) (by first|omega|(simp;done)|(simp;omega)))⟩)
   ·go_wp2_with fail
    exact⟨rfl,RPB.bad (by simp only[Px.signature,bind,Px.Rd.bind,offset_res,if_true,if_false,Bool.false_eq_true,hq1.out,hq2.out,hq3.out]) (HF2.out.trans (Fr.trans frk hf.wide)) hi⟩
  ·go_wp2_with fail
   exact⟨rfl,RPB.bad (by simp only[Px.signature,bind,Px.Rd.bind,offset_res,if_true,if_false,Bool.false_eq_true,hq1.out,hq2.out]) (HF1.out.trans (Fr.trans frk hf.wide)) hi⟩
 ·go_wp2_with fail
  exact⟨rfl,RPB.bad (by simp only[Px.signature,bind,Px.Rd.bind,offset_res,if_true,if_false,Bool.false_eq_true,hq1.out]) ((Fr.refl [c.R,b] w).trans (Fr.trans frk hf.wide)) hi⟩
set_option maxRecDepth 100000 in
set_option maxHeartbeats 1600000 in
theorem data_any (c:Ctx) (off:Nat) (ts:List Tk) (w:World) (h:Inv c ts w) (n:Nat) (hty:Reads c 77 n (okAgg typeQ) (Px.typeF c.size n)) (hm:ts.length<n) :
  Calls Tryz.prog 90 #[.pointer (some ⟨c.R,0,none⟩),.int .i64 off] w (RP c w (okAgg dataQ) (Px.data c.size n off ts)):=by
 have HTY:Hid (Reads c 77 n (okAgg typeQ) (Px.typeF c.size n)):=hid hty
 clear hty
 have hmf:=make_func
 have H:=hid h
 have HR0:=H.out.lt.1
 clear h
 go_enter Tryz.func90,Tryz.ntmps90
 go_wp2_with fail
 refine(name_any c ts _ (by exact H.out.f [w.heap.size+1] H.out)).mono ?_
 rintro e w1 hp
 rcases hp.cases with ⟨x1,ts1,v1,hq1,hf,hi,rfl,hv⟩|⟨ts1,hq1,hf,hi,rfl⟩
 ·clear hp
  obtain rfl:=hv
  have hT:Fr [c.R,w.heap.size+1] w w1:=Fr.trans frk hf.wide
  have HD1:Hid (Blk w1 (w.heap.size+1) 45 #[.string ⟨#[]⟩,.slice none 0 0,.slice none 0 0,.int .i64 0,.int .i64 off]):=hid ((Blk.new_at (by simp)).k hf)
  have HB1:Hid (Blk w1 (w.heap.size) 45 #[.string ⟨#[]⟩,.slice none 0 0,.slice none 0 0,.int .i64 0,.int .i64 0]):=hid ((Blk.alloc (Blk.new w _ _) _).k hf)
  have HI1:=hid hi
  have HF1:=hid ((Fr.refl [c.R] w).j hT)
  have hz1:=hf.size;try simp at hz1
  have hl1:ts1.length<ts.length:=Strict.name _ _ _ hq1.out
  clear hT hf hi
  have hlD:=HD1.out.lt
  obtain⟨d0,f0⟩:=HD1.out.df 0 (v:=.string ⟨#[]⟩) rfl
  go_wp2_with fail
  clear hlD d0 f0
  refine(params_any c ts1 _ (by exact HI1.out.f [w.heap.size+1] H.out)).mono ?_
  rintro e w2 hp
  rcases hp.cases with ⟨x2,ts2,v2,hq2,hf,hi,rfl,hv⟩|⟨ts2,hq2,hf,hi,rfl⟩
  ·clear hp
   obtain⟨p2,n2,k2,rfl⟩:=row_shp hv
   have hV2:=row_own (b:=w.heap.size+2) hv (by first|omega|(simp;done)|(simp;omega)) (Fr.refl [] _) (by simp)
   obtain⟨hT,HB2,HI2,HF2,hz2⟩:=Inv.st [w.heap.size+1] HB1.out HF1.out hf hi
   have HD2:Hid (Blk w2 (w.heap.size+1) 45 #[.string ⟨x1.toArray⟩,.slice none 0 0,.slice none 0 0,.int .i64 0,.int .i64 off]):=hid ((HD1.out.set 0 (.string ⟨x1.toArray⟩)).k hf)
   try simp at hz2
   have HV2:=hid hV2
   have hl2:ts2.length≤ts1.length:=(shr_params).ok hq2.out
   clear hT hf hi hV2 hv
   have hlD:=HD2.out.lt
   obtain⟨d1,f1⟩:=HD2.out.df 1 (v:=.slice none 0 0) rfl
   go_wp2_with fail
   clear hlD d1 f1
   refine(expect_any c ts2 [[123]] _ _ 1 (by exact HI2.out.f [w.heap.size+1] H.out) rfl (by exact Blk.new_at (by simp)) rfl (by decide)).mono ?_
   rintro e w3 hp
   rcases hp.cases with ⟨x3,ts3,v3,hq3,hf,hi,rfl,hv⟩|⟨ts3,hq3,hf,hi,rfl⟩
   ·clear hp
    obtain rfl:=hv
    have hT:Fr [c.R,w.heap.size+1] w2 w3:=Fr.trans frk hf.wide
    have HD3:Hid (Blk w3 (w.heap.size+1) 45 #[.string ⟨x1.toArray⟩,.slice p2 n2 k2,.slice none 0 0,.int .i64 0,.int .i64 off]):=hid ((Blk.alloc (HD2.out.set 1 (.slice p2 n2 k2)) _).k hf)
    have HB3:=hid (HB2.out.k hT)
    have HV2_3:=hid (row_own HV2.out (Nat.le_refl _) hT (by simp;omega))
    have HI3:=hid hi
    have HF3:=hid (HF2.out.j hT)
    have hz3:=hf.size;try simp at hz3
    have hl3:ts3.length≤ts2.length:=(Shr.expect _).ok hq3.out
    clear hT hf hi
    have hlD:=HD3.out.lt
    go_wp2_with fail
    clear hlD
    refine(list_var c _ n _ enters_variant (reads_variant c n HTY.out) (shr_variant _ _) ts3 _ (by exact HI3.out.f [w.heap.size+1] H.out) (by omega)).mono ?_
    rintro e w4 hp
    rcases hp.cases with ⟨x4,ts4,v4,hq4,hf,hi,rfl,hv⟩|⟨ts4,hq4,hf,hi,rfl⟩
    ·clear hp
     obtain⟨p4,n4,k4,rfl⟩:=row_shp hv
     have hV4:=row_own (b:=w.heap.size+2) hv (by first|omega|(simp;done)|(simp;omega)) (Fr.refl [] _) (by simp)
     have hT:Fr [c.R,w.heap.size+1] w3 w4:=Fr.trans frk hf.wide
     have HD4:=hid (HD3.out.k hf)
     have HB4:=hid (HB3.out.k hT)
     have HV2_4:=hid (row_own HV2_3.out (Nat.le_refl _) hT (by simp;omega))
     have HI4:=hid hi
     have HF4:=hid (HF3.out.j hT)
     have hz4:=hf.size;try simp at hz4
     have HV4:=hid hV4
     have hl4:ts4.length≤ts3.length:=(Shr.list (shr_variant _ _)).ok hq4.out
     clear hT hf hi hV4 hv
     have hlD:=HD4.out.lt
     obtain⟨d2,f2⟩:=HD4.out.df 2 (v:=.slice none 0 0) rfl
     go_wp2_with fail
     clear hlD d2 f2
     refine(expect_any c ts4 [[125]] _ _ 1 (by exact HI4.out.f [w.heap.size+1] H.out) rfl (by exact Blk.new_at (by simp)) rfl (by decide)).mono ?_
     rintro e w5 hp
     rcases hp.cases with ⟨x5,ts5,v5,hq5,hf,hi,rfl,hv⟩|⟨ts5,hq5,hf,hi,rfl⟩
     ·clear hp
      obtain rfl:=hv
      have hT:Fr [c.R,w.heap.size+1] w4 w5:=Fr.trans frk hf.wide
      have HD5:Hid (Blk w5 (w.heap.size+1) 45 #[.string ⟨x1.toArray⟩,.slice p2 n2 k2,.slice p4 n4 k4,.int .i64 0,.int .i64 off]):=hid ((Blk.alloc (HD4.out.set 2 (.slice p4 n4 k4)) _).k hf)
      have HB5:=hid (HB4.out.k hT)
      have HV2_5:=hid (row_own HV2_4.out (Nat.le_refl _) hT (by simp;omega))
      have HV4_5:=hid (row_own HV4.out (Nat.le_refl _) hT (by simp;omega))
      have HI5:=hid hi
      have HF5:=hid (HF4.out.j hT)
      have hz5:=hf.size;try simp at hz5
      have hl5:ts5.length≤ts4.length:=(Shr.expect _).ok hq5.out
      clear hT hf hi
      have hlD:=HD5.out.lt
      go_wp2_with fail
      clear hlD
      refine(accept_any c ts5 [[100,114,111,112]] _ _ 1 (by exact HI5.out.f [w.heap.size+1] H.out) rfl (by exact Blk.new_at (by simp)) rfl (by decide)).mono ?_
      rintro e w6 hp
      rcases hp.accept with ⟨hq6,_,hf,hi,rfl⟩|⟨hq6,hf,hi,rfl⟩
      ·clear hp
       have hl6:=accept_pos hq6.out rfl
       have hT:Fr [c.R,w.heap.size+1] w5 w6:=Fr.trans frk hf.wide
       have HD6:Hid (Blk w6 (w.heap.size+1) 45 #[.string ⟨x1.toArray⟩,.slice p2 n2 k2,.slice p4 n4 k4,.int .i64 0,.int .i64 off]):=hid ((Blk.alloc HD5.out _).k hf)
       have HB6:=hid (HB5.out.k hT)
       have HV2_6:=hid (row_own HV2_5.out (Nat.le_refl _) hT (by simp;omega))
       have HV4_6:=hid (row_own HV4_5.out (Nat.le_refl _) hT (by simp;omega))
       have HI6:=hid hi
       have HF6:=hid (HF5.out.j hT)
       have hz6:=hf.size;try simp at hz6
       clear hT hf hi
       have hlD:=HD6.out.lt
       go_wp2_with fail
       clear hlD
       refine(dropAction_any c ts5.tail _ (by exact HI6.out.f [w.heap.size+1] H.out)).mono ?_
       rintro e w7 hp
       rcases hp.cases with ⟨x7,ts7,v7,hq7,hf,hi,rfl,hv⟩|⟨ts7,hq7,hf,hi,rfl⟩
       ·clear hp
        obtain rfl:=hv
        have hT:Fr [c.R,w.heap.size+1] w6 w7:=Fr.trans frk hf.wide
        have HD7:=hid (HD6.out.k hf)
        have HB7:=hid (HB6.out.k hT)
        have HV2_7:=hid (row_own HV2_6.out (Nat.le_refl _) hT (by simp;omega))
        have HV4_7:=hid (row_own HV4_6.out (Nat.le_refl _) hT (by simp;omega))
        have HI7:=hid hi
        have HF7:=hid (HF6.out.j hT)
        have hz7:=hf.size;try simp at hz7
        have hl7:ts7.length≤ts5.tail.length:=(shr_dropAction).ok hq7.out
        clear hT hf hi
        have hlD:=HD7.out.lt
        obtain⟨d3,f3⟩:=HD7.out.df 3 (v:=.int .i64 0) rfl
        go_wp2_with fail
        clear hlD d3 f3
        refine(expect_any c ts7 [[59]] _ _ 1 (by exact HI7.out.f [w.heap.size+1] H.out) rfl (by exact Blk.new_at (by simp)) rfl (by decide)).mono ?_
        rintro e w8 hp
        rcases hp.cases with ⟨x8,ts8,v8,hq8,hf,hi,rfl,hv⟩|⟨ts8,hq8,hf,hi,rfl⟩
        ·clear hp
         obtain rfl:=hv
         have hT:Fr [c.R,w.heap.size+1] w7 w8:=Fr.trans frk hf.wide
         have HD8:Hid (Blk w8 (w.heap.size+1) 45 #[.string ⟨x1.toArray⟩,.slice p2 n2 k2,.slice p4 n4 k4,.int .i64 x7,.int .i64 off]):=hid ((Blk.alloc (HD7.out.set 3 (.int .i64 x7)) _).k hf)
         have HB8:=hid (HB7.out.k hT)
         have HV2_8:=hid (row_own HV2_7.out (Nat.le_refl _) hT (by simp;omega))
         have HV4_8:=hid (row_own HV4_7.out (Nat.le_refl _) hT (by simp;omega))
         have HI8:=hid hi
         have HF8:=hid (HF7.out.j hT)
         have hz8:=hf.size;try simp at hz8
         have hl8:ts8.length≤ts7.length:=(Shr.expect _).ok hq8.out
         clear hT hf hi
         have hlB:w.heap.size<w8.heap.size:=by omega
         have hlD:=HD8.out.lt
         obtain⟨d0,d1,d2,d3,d4⟩:=HD8.out.c5
         obtain⟨b0,b1,b2,b3,b4,g0,g1,g2,g3,g4⟩:=HB8.out.cf5
         go_wp2_with fail
         refine bodyPost_ret (v:=.agg #[.string ⟨x1.toArray⟩,.slice p2 n2 k2,.slice p4 n4 k4,.int .i64 x7,.int .i64 off]) (by simp[results,Tryz.results90,go_sem,hlB,hlD,d0,d1,d2,d3,d4,b0,b1,b2,b3,b4,g0,g1,g2,g3,g4]) rfl ?_
         clear hlB hlD d0 d1 d2 d3 d4 b0 b1 b2 b3 b4 g0 g1 g2 g3 g4
         exact RP.ok (a:=⟨x1,x2,x4,x7,off⟩) (by simp only[Px.data,bind,Px.Rd.bind,offset_res,if_true,if_false,Bool.false_eq_true,hq1.out,hq2.out,hq3.out,hq4.out,hq5.out,hq6.out,hq7.out,hq8.out] <;> rfl) (HF8.out.jf [w.heap.size+1,w.heap.size]) (HI8.out.f [w.heap.size+1,w.heap.size] H.out) ⟨_,rfl,rep_str.2 ⟨_,rfl,rep_sl.2 ⟨_,_,rfl,(row_own (b:=w.heap.size) HV2_8.out (by first|omega|(simp;done)|(simp;omega)) (X:=[w.heap.size+1,w.heap.size]) frk (by first|omega|(simp;done)|(simp;omega))),rep_sl.2 ⟨_,_,rfl,(row_own (b:=w.heap.size) HV4_8.out (by first|omega|(simp;done)|(simp;omega)) (X:=[w.heap.size+1,w.heap.size]) frk (by first|omega|(simp;done)|(simp;omega))),rep_int.2 ⟨_,rfl,rep_int.2 ⟨_,rfl,rep_nil.2 rfl⟩⟩⟩⟩⟩⟩
        ·go_wp2_with fail
         exact⟨rfl,RP.bad (by simp only[Px.data,bind,Px.Rd.bind,offset_res,if_true,if_false,Bool.false_eq_true,hq1.out,hq2.out,hq3.out,hq4.out,hq5.out,hq6.out,hq7.out,hq8.out]) (HF7.out.jt [w.heap.size+1] hf) hi⟩
       ·go_wp2_with fail
        exact⟨rfl,RP.bad (by simp only[Px.data,bind,Px.Rd.bind,offset_res,if_true,if_false,Bool.false_eq_true,hq1.out,hq2.out,hq3.out,hq4.out,hq5.out,hq6.out,hq7.out]) (HF6.out.jt [w.heap.size+1] hf) hi⟩
      ·clear hp
       have hT:Fr [c.R,w.heap.size+1] w5 w6:=Fr.trans frk hf.wide
       have HD6:Hid (Blk w6 (w.heap.size+1) 45 #[.string ⟨x1.toArray⟩,.slice p2 n2 k2,.slice p4 n4 k4,.int .i64 0,.int .i64 off]):=hid ((Blk.alloc HD5.out _).k hf)
       have HB6:=hid (HB5.out.k hT)
       have HV2_6:=hid (row_own HV2_5.out (Nat.le_refl _) hT (by simp;omega))
       have HV4_6:=hid (row_own HV4_5.out (Nat.le_refl _) hT (by simp;omega))
       have HI6:=hid hi
       have HF6:=hid (HF5.out.j hT)
       have hz6:=hf.size;try simp at hz6
       clear hT hf hi
       have hlD:=HD6.out.lt
       go_wp2_with fail
       clear hlD
       refine(expect_any c ts5 [[59]] _ _ 1 (by exact HI6.out.f [w.heap.size+1] H.out) rfl (by exact Blk.new_at (by simp)) rfl (by decide)).mono ?_
       rintro e w9 hp
       rcases hp.cases with ⟨x9,ts9,v9,hq9,hf,hi,rfl,hv⟩|⟨ts9,hq9,hf,hi,rfl⟩
       ·clear hp
        obtain rfl:=hv
        have hT:Fr [c.R,w.heap.size+1] w6 w9:=Fr.trans frk hf.wide
        have HD9:Hid (Blk w9 (w.heap.size+1) 45 #[.string ⟨x1.toArray⟩,.slice p2 n2 k2,.slice p4 n4 k4,.int .i64 0,.int .i64 off]):=hid ((Blk.alloc HD6.out _).k hf)
        have HB9:=hid (HB6.out.k hT)
        have HV2_9:=hid (row_own HV2_6.out (Nat.le_refl _) hT (by simp;omega))
        have HV4_9:=hid (row_own HV4_6.out (Nat.le_refl _) hT (by simp;omega))
        have HI9:=hid hi
        have HF9:=hid (HF6.out.j hT)
        have hz9:=hf.size;try simp at hz9
        have hl9:ts9.length≤ts5.length:=(Shr.expect _).ok hq9.out
        clear hT hf hi
        have hlB:w.heap.size<w9.heap.size:=by omega
        have hlD:=HD9.out.lt
        obtain⟨d0,d1,d2,d3,d4⟩:=HD9.out.c5
        obtain⟨b0,b1,b2,b3,b4,g0,g1,g2,g3,g4⟩:=HB9.out.cf5
        go_wp2_with fail
        refine bodyPost_ret (v:=.agg #[.string ⟨x1.toArray⟩,.slice p2 n2 k2,.slice p4 n4 k4,.int .i64 0,.int .i64 off]) (by simp[results,Tryz.results90,go_sem,hlB,hlD,d0,d1,d2,d3,d4,b0,b1,b2,b3,b4,g0,g1,g2,g3,g4]) rfl ?_
        clear hlB hlD d0 d1 d2 d3 d4 b0 b1 b2 b3 b4 g0 g1 g2 g3 g4
        exact RP.ok (a:=⟨x1,x2,x4,0,off⟩) (by simp only[Px.data,bind,Px.Rd.bind,offset_res,if_true,if_false,Bool.false_eq_true,hq1.out,hq2.out,hq3.out,hq4.out,hq5.out,hq6.out,hq9.out] <;> rfl) (HF9.out.jf [w.heap.size+1,w.heap.size]) (HI9.out.f [w.heap.size+1,w.heap.size] H.out) ⟨_,rfl,rep_str.2 ⟨_,rfl,rep_sl.2 ⟨_,_,rfl,(row_own (b:=w.heap.size) HV2_9.out (by first|omega|(simp;done)|(simp;omega)) (X:=[w.heap.size+1,w.heap.size]) frk (by first|omega|(simp;done)|(simp;omega))),rep_sl.2 ⟨_,_,rfl,(row_own (b:=w.heap.size) HV4_9.out (by first|omega|(simp;done)|(simp;omega)) (X:=[w.heap.size+1,w.heap.size]) frk (by first|omega|(simp;done)|(simp;omega))),rep_int.2 ⟨_,rfl,rep_int.2 ⟨_,rfl,rep_nil.2 rfl⟩⟩⟩⟩⟩⟩
       ·go_wp2_with fail
        exact⟨rfl,RP.bad (by simp only[Px.data,bind,Px.Rd.bind,offset_res,if_true,if_false,Bool.false_eq_true,hq1.out,hq2.out,hq3.out,hq4.out,hq5.out,hq6.out,hq9.out]) (HF6.out.jt [w.heap.size+1] hf) hi⟩
     ·go_wp2_with fail
      exact⟨rfl,RP.bad (by simp only[Px.data,bind,Px.Rd.bind,offset_res,if_true,if_false,Bool.false_eq_true,hq1.out,hq2.out,hq3.out,hq4.out,hq5.out]) (HF4.out.jt [w.heap.size+1] hf) hi⟩
    ·go_wp2_with fail
     exact⟨rfl,RP.bad (by simp only[Px.data,bind,Px.Rd.bind,offset_res,if_true,if_false,Bool.false_eq_true,hq1.out,hq2.out,hq3.out,hq4.out]) (HF3.out.jt [w.heap.size+1] hf) hi⟩
   ·go_wp2_with fail
    exact⟨rfl,RP.bad (by simp only[Px.data,bind,Px.Rd.bind,offset_res,if_true,if_false,Bool.false_eq_true,hq1.out,hq2.out,hq3.out]) (HF2.out.jt [w.heap.size+1] hf) hi⟩
  ·go_wp2_with fail
   exact⟨rfl,RP.bad (by simp only[Px.data,bind,Px.Rd.bind,offset_res,if_true,if_false,Bool.false_eq_true,hq1.out,hq2.out]) (HF1.out.jt [w.heap.size+1] hf) hi⟩
 ·go_wp2_with fail
  exact⟨rfl,RP.bad (by simp only[Px.data,bind,Px.Rd.bind,offset_res,if_true,if_false,Bool.false_eq_true,hq1.out]) ((Fr.refl [c.R] w).jt [w.heap.size+1] hf) hi⟩
set_option maxRecDepth 100000 in
set_option maxHeartbeats 1600000 in
theorem trait_any (c:Ctx) (off:Nat) (ts:List Tk) (w:World) (h:Inv c ts w) :
  Calls Tryz.prog 91 #[.pointer (some ⟨c.R,0,none⟩),.int .i64 off] w (RP c w (okAgg traitQ) (Px.trait off ts)):=by
 have H:=hid h
 have HR0:=H.out.lt.1
 clear h
 go_enter Tryz.func91,Tryz.ntmps91
 go_wp2_with fail
 refine(name_any c ts _ (by exact H.out.f [w.heap.size+1] H.out)).mono ?_
 rintro e w1 hp
 rcases hp.cases with ⟨x1,ts1,v1,hq1,hf,hi,rfl,hv⟩|⟨ts1,hq1,hf,hi,rfl⟩
 ·clear hp
  obtain rfl:=hv
  have hT:Fr [c.R,w.heap.size+1] w w1:=Fr.trans frk hf.wide
  have HD1:Hid (Blk w1 (w.heap.size+1) 89 #[.string ⟨#[]⟩,.int .i64 off]):=hid ((Blk.new_at (by simp)).k hf)
  have HB1:Hid (Blk w1 (w.heap.size) 89 #[.string ⟨#[]⟩,.int .i64 0]):=hid ((Blk.alloc (Blk.new w _ _) _).k hf)
  have HI1:=hid hi
  have HF1:=hid ((Fr.refl [c.R] w).j hT)
  have hz1:=hf.size;try simp at hz1
  have hl1:ts1.length<ts.length:=Strict.name _ _ _ hq1.out
  clear hT hf hi
  have hlD:=HD1.out.lt
  obtain⟨d0,f0⟩:=HD1.out.df 0 (v:=.string ⟨#[]⟩) rfl
  go_wp2_with fail
  clear hlD d0 f0
  refine(expect_any c ts1 [[59]] _ _ 1 (by exact HI1.out.f [w.heap.size+1] H.out) rfl (by exact Blk.new_at (by simp)) rfl (by decide)).mono ?_
  rintro e w2 hp
  rcases hp.cases with ⟨x2,ts2,v2,hq2,hf,hi,rfl,hv⟩|⟨ts2,hq2,hf,hi,rfl⟩
  ·clear hp
   obtain rfl:=hv
   obtain⟨hT,HB2,HI2,HF2,hz2⟩:=Inv.st [w.heap.size+1] HB1.out HF1.out hf hi
   have HD2:Hid (Blk w2 (w.heap.size+1) 89 #[.string ⟨x1.toArray⟩,.int .i64 off]):=hid ((Blk.alloc (HD1.out.set 0 (.string ⟨x1.toArray⟩)) _).k hf)
   try simp at hz2
   have hl2:ts2.length≤ts1.length:=(Shr.expect _).ok hq2.out
   clear hT hf hi
   have hlB:w.heap.size<w2.heap.size:=by omega
   have hlD:=HD2.out.lt
   have d0:=HD2.out.at 0 (v:=.string ⟨x1.toArray⟩) rfl
   have d1:=HD2.out.at 1 (v:=.int .i64 off) rfl
   obtain⟨b0,g0⟩:=HB2.out.df 0 (v:=.string ⟨#[]⟩) rfl
   obtain⟨b1,g1⟩:=HB2.out.df 1 (v:=.int .i64 0) rfl
   go_wp2_with fail
   refine bodyPost_ret (v:=.agg #[.string ⟨x1.toArray⟩,.int .i64 off]) (by simp[results,Tryz.results91,go_sem,hlB,hlD,d0,d1,b0,b1,g0,g1]) rfl ?_
   clear hlB hlD d0 d1 b0 b1 g0 g1
   exact RP.ok (a:=⟨x1,off⟩) (by simp only[Px.trait,bind,Px.Rd.bind,offset_res,if_true,if_false,Bool.false_eq_true,hq1.out,hq2.out] <;> rfl) (HF2.out.jf [w.heap.size+1,w.heap.size]) (HI2.out.f [w.heap.size+1,w.heap.size] H.out) ⟨_,rfl,rep_str.2 ⟨_,rfl,rep_int.2 ⟨_,rfl,rep_nil.2 rfl⟩⟩⟩
  ·go_wp2_with fail
   exact⟨rfl,RP.bad (by simp only[Px.trait,bind,Px.Rd.bind,offset_res,if_true,if_false,Bool.false_eq_true,hq1.out,hq2.out]) (HF1.out.jt [w.heap.size+1] hf) hi⟩
 ·go_wp2_with fail
  exact⟨rfl,RP.bad (by simp only[Px.trait,bind,Px.Rd.bind,offset_res,if_true,if_false,Bool.false_eq_true,hq1.out]) ((Fr.refl [c.R] w).jt [w.heap.size+1] hf) hi⟩
set_option maxRecDepth 100000 in
set_option maxHeartbeats 1600000 in
theorem implementation_any (c:Ctx) (off:Nat) (ts:List Tk) (w:World) (h:Inv c ts w) (n:Nat) (hty:Reads c 77 n (okAgg typeQ) (Px.typeF c.size n)) (hm:ts.length<n) :
  Calls Tryz.prog 92 #[.pointer (some ⟨c.R,0,none⟩),.int .i64 off] w (RP c w (okAgg implQ) (Px.implementation c.size n off ts)):=by
 have HTY:Hid (Reads c 77 n (okAgg typeQ) (Px.typeF c.size n)):=hid hty
 clear hty
 have hmf:=make_func
 have H:=hid h
 have HR0:=H.out.lt.1
 clear h
 go_enter Tryz.func92,Tryz.ntmps92
 go_wp2_with fail
 refine(params_any c ts _ (by exact H.out.f [w.heap.size+1] H.out)).mono ?_
 rintro e w1 hp
 rcases hp.cases with ⟨x1,ts1,v1,hq1,hf,hi,rfl,hv⟩|⟨ts1,hq1,hf,hi,rfl⟩
 ·clear hp
  obtain⟨p1,n1,k1,rfl⟩:=row_shp hv
  have hV1:=row_own (b:=w.heap.size+2) hv (by first|omega|(simp;done)|(simp;omega)) (Fr.refl [] _) (by simp)
  have hT:Fr [c.R,w.heap.size+1] w w1:=Fr.trans frk hf.wide
  have HD1:Hid (Blk w1 (w.heap.size+1) 91 #[.string ⟨#[]⟩,.slice none 0 0,.slice none 0 0,.string ⟨#[]⟩,.slice none 0 0,.int .i64 0,.string ⟨#[]⟩,.int .i64 off]):=hid ((Blk.new_at (by simp)).k hf)
  have HB1:Hid (Blk w1 (w.heap.size) 91 #[.string ⟨#[]⟩,.slice none 0 0,.slice none 0 0,.string ⟨#[]⟩,.slice none 0 0,.int .i64 0,.string ⟨#[]⟩,.int .i64 0]):=hid ((Blk.alloc (Blk.new w _ _) _).k hf)
  have HI1:=hid hi
  have HF1:=hid ((Fr.refl [c.R] w).j hT)
  have hz1:=hf.size;try simp at hz1
  have HV1:=hid hV1
  have hl1:ts1.length≤ts.length:=(shr_params).ok hq1.out
  clear hT hf hi hV1 hv
  have hlD:=HD1.out.lt
  obtain⟨d1,f1⟩:=HD1.out.df 1 (v:=.slice none 0 0) rfl
  go_wp2_with fail
  clear hlD d1 f1
  refine(name_any c ts1 _ (by exact HI1.out.f [w.heap.size+1] H.out)).mono ?_
  rintro e w2 hp
  rcases hp.cases with ⟨x2,ts2,v2,hq2,hf,hi,rfl,hv⟩|⟨ts2,hq2,hf,hi,rfl⟩
  ·clear hp
   obtain rfl:=hv
   have hT:Fr [c.R,w.heap.size+1] w1 w2:=Fr.trans frk hf.wide
   have HD2:Hid (Blk w2 (w.heap.size+1) 91 #[.string ⟨#[]⟩,.slice p1 n1 k1,.slice none 0 0,.string ⟨#[]⟩,.slice none 0 0,.int .i64 0,.string ⟨#[]⟩,.int .i64 off]):=hid ((HD1.out.set 1 (.slice p1 n1 k1)).k hf)
   have HB2:=hid (HB1.out.k hT)
   have HV1_2:=hid (row_own HV1.out (Nat.le_refl _) hT (by simp;omega))
   have HI2:=hid hi
   have HF2:=hid (HF1.out.j hT)
   have hz2:=hf.size;try simp at hz2
   have hl2:ts2.length<ts1.length:=Strict.name _ _ _ hq2.out
   clear hT hf hi
   have hlD:=HD2.out.lt
   obtain⟨d0,f0⟩:=HD2.out.df 0 (v:=.string ⟨#[]⟩) rfl
   go_wp2_with fail
   clear hlD d0 f0
   refine(expect_any c ts2 [[102,111,114]] _ _ 1 (by exact HI2.out.f [w.heap.size+1] H.out) rfl (by exact Blk.new_at (by simp)) rfl (by decide)).mono ?_
   rintro e w3 hp
   rcases hp.cases with ⟨x3,ts3,v3,hq3,hf,hi,rfl,hv⟩|⟨ts3,hq3,hf,hi,rfl⟩
   ·clear hp
    obtain rfl:=hv
    have hT:Fr [c.R,w.heap.size+1] w2 w3:=Fr.trans frk hf.wide
    have HD3:Hid (Blk w3 (w.heap.size+1) 91 #[.string ⟨x2.toArray⟩,.slice p1 n1 k1,.slice none 0 0,.string ⟨#[]⟩,.slice none 0 0,.int .i64 0,.string ⟨#[]⟩,.int .i64 off]):=hid ((Blk.alloc (HD2.out.set 0 (.string ⟨x2.toArray⟩)) _).k hf)
    have HB3:=hid (HB2.out.k hT)
    have HV1_3:=hid (row_own HV1_2.out (Nat.le_refl _) hT (by simp;omega))
    have HI3:=hid hi
    have HF3:=hid (HF2.out.j hT)
    have hz3:=hf.size;try simp at hz3
    have hl3:ts3.length≤ts2.length:=(Shr.expect _).ok hq3.out
    clear hT hf hi
    have hlD:=HD3.out.lt
    go_wp2_with fail
    clear hlD
    refine(HTY.out ts3 _ (by exact HI3.out.f [w.heap.size+1] H.out) (by omega)).mono ?_
    rintro e w4 hp
    rcases hp.cases with ⟨x4,ts4,v4,hq4,hf,hi,rfl,hv⟩|⟨ts4,hq4,hf,hi,rfl⟩
    ·clear hp
     obtain⟨cs,rfl,hrep⟩:=hv
     obtain⟨s4_0,p4_1,n4_1,c4_1,i4_2,rfl⟩:=hrep.c_typeQ
     have hV4:Rep w4 (fun k=>w.heap.size+2≤k) _ _:=hrep.mono (fun k hk _=>⟨by (try simp at hk);omega,rfl⟩)
     have hT:Fr [c.R,w.heap.size+1] w3 w4:=Fr.trans frk hf.wide
     have HD4:=hid (HD3.out.k hf)
     have HB4:=hid (HB3.out.k hT)
     have HV1_4:=hid (row_own HV1_3.out (Nat.le_refl _) hT (by simp;omega))
     have HI4:=hid hi
     have HF4:=hid (HF3.out.j hT)
     have hz4:=hf.size;try simp at hz4
     have HV4:=hid hV4
     have hl4:ts4.length≤ts3.length:=(shr_typeF _ _).ok hq4.out
     clear hT hf hi hV4 hrep
     have hlD:=HD4.out.lt
     obtain⟨d3,f3⟩:=HD4.out.df 3 (v:=.string ⟨#[]⟩) rfl
     obtain⟨d4,f4⟩:=HD4.out.df 4 (v:=.slice none 0 0) rfl
     obtain⟨d5,f5⟩:=HD4.out.df 5 (v:=.int .i64 0) rfl
     go_wp2_with fail
     clear hlD d3 d4 d5 f3 f4 f5
     refine(bounds_any c ts4 _ (by exact HI4.out.f [w.heap.size+1] H.out)).mono ?_
     rintro e w5 hp
     rcases hp.cases with ⟨x5,ts5,v5,hq5,hf,hi,rfl,hv⟩|⟨ts5,hq5,hf,hi,rfl⟩
     ·clear hp
      obtain⟨p5,n5,k5,rfl⟩:=row_shp hv
      have hV5:=row_own (b:=w.heap.size+2) hv (by first|omega|(simp;done)|(simp;omega)) (Fr.refl [] _) (by simp)
      have hT:Fr [c.R,w.heap.size+1] w4 w5:=Fr.trans frk hf.wide
      have HD5:Hid (Blk w5 (w.heap.size+1) 91 #[.string ⟨x2.toArray⟩,.slice p1 n1 k1,.slice none 0 0,.string s4_0,.slice p4_1 n4_1 c4_1,.int .i64 i4_2,.string ⟨#[]⟩,.int .i64 off]):=hid ((((HD4.out.set 3 (.string s4_0)).set 4 (.slice p4_1 n4_1 c4_1)).set 5 (.int .i64 i4_2)).k hf)
      have HB5:=hid (HB4.out.k hT)
      have HV1_5:=hid (row_own HV1_4.out (Nat.le_refl _) hT (by simp;omega))
      have HV4_5:=hid (rep_own HV4.out hT (by simp;omega))
      have HI5:=hid hi
      have HF5:=hid (HF4.out.j hT)
      have hz5:=hf.size;try simp at hz5
      have HV5:=hid hV5
      have hl5:ts5.length≤ts4.length:=(shr_bounds _).ok hq5.out
      clear hT hf hi hV5 hv
      have hlD:=HD5.out.lt
      obtain⟨d2,f2⟩:=HD5.out.df 2 (v:=.slice none 0 0) rfl
      go_wp2_with fail
      clear hlD d2 f2
      refine(expect_any c ts5 [[61]] _ _ 1 (by exact HI5.out.f [w.heap.size+1] H.out) rfl (by exact Blk.new_at (by simp)) rfl (by decide)).mono ?_
      rintro e w6 hp
      rcases hp.cases with ⟨x6,ts6,v6,hq6,hf,hi,rfl,hv⟩|⟨ts6,hq6,hf,hi,rfl⟩
      ·clear hp
       obtain rfl:=hv
       have hT:Fr [c.R,w.heap.size+1] w5 w6:=Fr.trans frk hf.wide
       have HD6:Hid (Blk w6 (w.heap.size+1) 91 #[.string ⟨x2.toArray⟩,.slice p1 n1 k1,.slice p5 n5 k5,.string s4_0,.slice p4_1 n4_1 c4_1,.int .i64 i4_2,.string ⟨#[]⟩,.int .i64 off]):=hid ((Blk.alloc (HD5.out.set 2 (.slice p5 n5 k5)) _).k hf)
       have HB6:=hid (HB5.out.k hT)
       have HV1_6:=hid (row_own HV1_5.out (Nat.le_refl _) hT (by simp;omega))
       have HV4_6:=hid (rep_own HV4_5.out hT (by simp;omega))
       have HV5_6:=hid (row_own HV5.out (Nat.le_refl _) hT (by simp;omega))
       have HI6:=hid hi
       have HF6:=hid (HF5.out.j hT)
       have hz6:=hf.size;try simp at hz6
       have hl6:ts6.length≤ts5.length:=(Shr.expect _).ok hq6.out
       clear hT hf hi
       have hlD:=HD6.out.lt
       go_wp2_with fail
       clear hlD
       refine(name_any c ts6 _ (by exact HI6.out.f [w.heap.size+1] H.out)).mono ?_
       rintro e w7 hp
       rcases hp.cases with ⟨x7,ts7,v7,hq7,hf,hi,rfl,hv⟩|⟨ts7,hq7,hf,hi,rfl⟩
       ·clear hp
        obtain rfl:=hv
        have hT:Fr [c.R,w.heap.size+1] w6 w7:=Fr.trans frk hf.wide
        have HD7:=hid (HD6.out.k hf)
        have HB7:=hid (HB6.out.k hT)
        have HV1_7:=hid (row_own HV1_6.out (Nat.le_refl _) hT (by simp;omega))
        have HV4_7:=hid (rep_own HV4_6.out hT (by simp;omega))
        have HV5_7:=hid (row_own HV5_6.out (Nat.le_refl _) hT (by simp;omega))
        have HI7:=hid hi
        have HF7:=hid (HF6.out.j hT)
        have hz7:=hf.size;try simp at hz7
        have hl7:ts7.length<ts6.length:=Strict.name _ _ _ hq7.out
        clear hT hf hi
        have hlD:=HD7.out.lt
        obtain⟨d6,f6⟩:=HD7.out.df 6 (v:=.string ⟨#[]⟩) rfl
        go_wp2_with fail
        clear hlD d6 f6
        refine(expect_any c ts7 [[59]] _ _ 1 (by exact HI7.out.f [w.heap.size+1] H.out) rfl (by exact Blk.new_at (by simp)) rfl (by decide)).mono ?_
        rintro e w8 hp
        rcases hp.cases with ⟨x8,ts8,v8,hq8,hf,hi,rfl,hv⟩|⟨ts8,hq8,hf,hi,rfl⟩
        ·clear hp
         obtain rfl:=hv
         have hT:Fr [c.R,w.heap.size+1] w7 w8:=Fr.trans frk hf.wide
         have HD8:Hid (Blk w8 (w.heap.size+1) 91 #[.string ⟨x2.toArray⟩,.slice p1 n1 k1,.slice p5 n5 k5,.string s4_0,.slice p4_1 n4_1 c4_1,.int .i64 i4_2,.string ⟨x7.toArray⟩,.int .i64 off]):=hid ((Blk.alloc (HD7.out.set 6 (.string ⟨x7.toArray⟩)) _).k hf)
         have HB8:=hid (HB7.out.k hT)
         have HV1_8:=hid (row_own HV1_7.out (Nat.le_refl _) hT (by simp;omega))
         have HV4_8:=hid (rep_own HV4_7.out hT (by simp;omega))
         have HV5_8:=hid (row_own HV5_7.out (Nat.le_refl _) hT (by simp;omega))
         have HI8:=hid hi
         have HF8:=hid (HF7.out.j hT)
         have hz8:=hf.size;try simp at hz8
         have hl8:ts8.length≤ts7.length:=(Shr.expect _).ok hq8.out
         clear hT hf hi
         have hlB:w.heap.size<w8.heap.size:=by omega
         have hlD:=HD8.out.lt
         obtain⟨d0,d1,d2,d3,d4,d5,d6,d7⟩:=HD8.out.c8
         obtain⟨b0,b1,b2,b3,b4,b5,b6,b7,g0,g1,g2,g3,g4,g5,g6,g7⟩:=HB8.out.cf8
         go_wp2_with fail
         refine bodyPost_ret (v:=.agg #[.string ⟨x2.toArray⟩,.slice p1 n1 k1,.slice p5 n5 k5,.string s4_0,.slice p4_1 n4_1 c4_1,.int .i64 i4_2,.string ⟨x7.toArray⟩,.int .i64 off]) (by simp[results,Tryz.results92,go_sem,hlB,hlD,d0,d1,d2,d3,d4,d5,d6,d7,b0,b1,b2,b3,b4,b5,b6,b7,g0,g1,g2,g3,g4,g5,g6,g7]) rfl ?_
         clear hlB hlD d0 d1 d2 d3 d4 d5 d6 d7 b0 b1 b2 b3 b4 b5 b6 b7 g0 g1 g2 g3 g4 g5 g6 g7
         exact RP.ok (a:=⟨x2,x1,x5,x4,x7,off⟩) (by simp only[Px.implementation,bind,Px.Rd.bind,offset_res,if_true,if_false,Bool.false_eq_true,hq1.out,hq2.out,hq3.out,hq4.out,hq5.out,hq6.out,hq7.out,hq8.out] <;> rfl) (HF8.out.jf [w.heap.size+1,w.heap.size]) (HI8.out.f [w.heap.size+1,w.heap.size] H.out) ⟨_,rfl,rep_str.2 ⟨_,rfl,rep_sl.2 ⟨_,_,rfl,(row_own (b:=w.heap.size) HV1_8.out (by first|omega|(simp;done)|(simp;omega)) (X:=[w.heap.size+1,w.heap.size]) frk (by first|omega|(simp;done)|(simp;omega))),rep_sl.2 ⟨_,_,rfl,(row_own (b:=w.heap.size) HV5_8.out (by first|omega|(simp;done)|(simp;omega)) (X:=[w.heap.size+1,w.heap.size]) frk (by first|omega|(simp;done)|(simp;omega))),Rep.app (cs:=[.string s4_0,.slice p4_1 n4_1 c4_1,.int .i64 i4_2]) (rep_own (b:=w.heap.size) HV4_8.out (X:=[w.heap.size+1,w.heap.size]) frk (by first|omega|(simp;done)|(simp;omega)) (by first|omega|(simp;done)|(simp;omega))) (rep_str.2 ⟨_,rfl,rep_int.2 ⟨_,rfl,rep_nil.2 rfl⟩⟩)⟩⟩⟩⟩
        ·go_wp2_with fail
         exact⟨rfl,RP.bad (by simp only[Px.implementation,bind,Px.Rd.bind,offset_res,if_true,if_false,Bool.false_eq_true,hq1.out,hq2.out,hq3.out,hq4.out,hq5.out,hq6.out,hq7.out,hq8.out]) (HF7.out.jt [w.heap.size+1] hf) hi⟩
       ·go_wp2_with fail
        exact⟨rfl,RP.bad (by simp only[Px.implementation,bind,Px.Rd.bind,offset_res,if_true,if_false,Bool.false_eq_true,hq1.out,hq2.out,hq3.out,hq4.out,hq5.out,hq6.out,hq7.out]) (HF6.out.jt [w.heap.size+1] hf) hi⟩
      ·go_wp2_with fail
       exact⟨rfl,RP.bad (by simp only[Px.implementation,bind,Px.Rd.bind,offset_res,if_true,if_false,Bool.false_eq_true,hq1.out,hq2.out,hq3.out,hq4.out,hq5.out,hq6.out]) (HF5.out.jt [w.heap.size+1] hf) hi⟩
     ·go_wp2_with fail
      exact⟨rfl,RP.bad (by simp only[Px.implementation,bind,Px.Rd.bind,offset_res,if_true,if_false,Bool.false_eq_true,hq1.out,hq2.out,hq3.out,hq4.out,hq5.out]) (HF4.out.jt [w.heap.size+1] hf) hi⟩
    ·go_wp2_with fail
     exact⟨rfl,RP.bad (by simp only[Px.implementation,bind,Px.Rd.bind,offset_res,if_true,if_false,Bool.false_eq_true,hq1.out,hq2.out,hq3.out,hq4.out]) (HF3.out.jt [w.heap.size+1] hf) hi⟩
   ·go_wp2_with fail
    exact⟨rfl,RP.bad (by simp only[Px.implementation,bind,Px.Rd.bind,offset_res,if_true,if_false,Bool.false_eq_true,hq1.out,hq2.out,hq3.out]) (HF2.out.jt [w.heap.size+1] hf) hi⟩
  ·go_wp2_with fail
   exact⟨rfl,RP.bad (by simp only[Px.implementation,bind,Px.Rd.bind,offset_res,if_true,if_false,Bool.false_eq_true,hq1.out,hq2.out]) (HF1.out.jt [w.heap.size+1] hf) hi⟩
 ·go_wp2_with fail
  exact⟨rfl,RP.bad (by simp only[Px.implementation,bind,Px.Rd.bind,offset_res,if_true,if_false,Bool.false_eq_true,hq1.out]) ((Fr.refl [c.R] w).jt [w.heap.size+1] hf) hi⟩
theorem expr0_rep {w:World} {N:Nat→Prop} : Rep w N (exprQ Px.expr0) [.int .i64 0,.string ⟨#[]⟩,.string ⟨#[]⟩,.string ⟨#[]⟩,.slice none 0 0,.int .i64 0,.slice none 0 0,.int .i64 0] :=
 rep_int.2 ⟨_,rfl,rep_str.2 ⟨_,rfl,rep_str.2 ⟨_,rfl,rep_str.2 ⟨_,rfl,rep_sl.2 ⟨_,_,rfl,RowV.nil _ _ _ _,rep_int.2 ⟨_,rfl,rep_sl.2 ⟨_,_,rfl,RowV.nil _ _ _ _,rep_int.2 ⟨_,rfl,rep_nil.2 rfl⟩⟩⟩⟩⟩⟩⟩⟩
def functionS (sz n:Nat) (S:Px.Rd StmtD) (off:Nat):Px.Rd FuncD:=do
 let x ← Px.name
 let p ← Px.params
 let s ← Px.signature sz n
 let b ← Px.bounds sz
 let l ← Px.block S
 pure (.mk x p b [] s.1 s.2 l off)
set_option maxRecDepth 100000 in
set_option maxHeartbeats 1600000 in
theorem block_any (c:Ctx) (ts:List Tk) (w:World) (h:Inv c ts w) (n m:Nat) (S:Px.Rd StmtD) (hty:Reads c 77 n (okAgg typeQ) (Px.typeF c.size n)) (hst:Reads c 105 m (okAgg stmtQ) S) (hsh:Shr S) (hstr:Strict S) (hm:ts.length<n) (hm2:ts.length<m) :
  Calls Tryz.prog 79 #[.pointer (some ⟨c.R,0,none⟩)] w (RP c w (okRow 52 17 stmtQ) (Px.block S ts)):=by
 have HTY:Hid (Reads c 77 n (okAgg typeQ) (Px.typeF c.size n)):=hid hty
 have HST:Hid (Reads c 105 m (okAgg stmtQ) S):=hid hst
 have HSH:=hid hsh
 have HSTR:Hid (Strict S):=hid hstr
 clear hty hst hsh hstr
 have hmf:=make_func
 have H:=hid h
 have HR0:=H.out.lt.1
 clear h
 go_enter Tryz.func79,Tryz.ntmps79
 go_wp2_with fail
 refine(expect_any c ts [[123]] _ _ 1 (by exact H.out.f [] H.out) rfl (by exact Blk.new_at (by simp)) rfl (by decide)).mono ?_
 rintro e w1 hp
 rcases hp.cases with ⟨x1,ts1,v1,hq1,hf,hi,rfl,hv⟩|⟨ts1,hq1,hf,hi,rfl⟩
 ·clear hp
  obtain rfl:=hv
  obtain⟨hT,HI1,HF1,hz1⟩:=Inv.st0 [] (Fr.refl [c.R] w) hf hi
  try simp at hz1
  have hl1:ts1.length≤ts.length:=(Shr.expect _).ok hq1.out
  clear hT hf hi
  go_wp2_with fail
  refine(until_stmt c _ m S enters_stmt HST.out HSTR.out ts1 _ (by exact HI1.out.f [] H.out) (by omega)).mono ?_
  rintro e w2 hp
  rcases hp.cases with ⟨x2,ts2,v2,hq2,hf,hi,rfl,hv⟩|⟨ts2,hq2,hf,hi,rfl⟩
  ·clear hp
   obtain⟨p2,n2,k2,rfl⟩:=row_shp hv
   have hV2:=row_own (b:=w.heap.size) hv (by first|omega|(simp;done)|(simp;omega)) (Fr.refl [] _) (by simp)
   obtain⟨hT,HI2,HF2,hz2⟩:=Inv.st0 [] HF1.out hf hi
   try simp at hz2
   have HV2:=hid hV2
   have hl2:ts2.length≤ts1.length:=(Shr.until HSH.out).ok hq2.out
   clear hT hf hi hV2 hv
   go_wp2_with fail
   go_ret
   exact RP.ok (by simp only[Px.block,bind,Px.Rd.bind,offset_res,if_true,if_false,Bool.false_eq_true,hq1.out,hq2.out] <;> rfl) (HF2.out.jf []) (HI2.out.f [] H.out) (row_own (b:=w.heap.size) HV2.out (by first|omega|(simp;done)|(simp;omega)) (X:=[]) frk (by first|omega|(simp;done)|(simp;omega)))
  ·go_wp2_with fail
   exact⟨rfl,RP.bad (by simp only[Px.block,bind,Px.Rd.bind,offset_res,if_true,if_false,Bool.false_eq_true,hq1.out,hq2.out]) (HF1.out.jt [] hf) hi⟩
 ·go_wp2_with fail
  exact⟨rfl,RP.bad (by simp only[Px.block,bind,Px.Rd.bind,offset_res,if_true,if_false,Bool.false_eq_true,hq1.out]) ((Fr.refl [c.R] w).jt [] hf) hi⟩
set_option maxRecDepth 100000 in
set_option maxHeartbeats 1600000 in
theorem arm_any (c:Ctx) (ts:List Tk) (w:World) (h:Inv c ts w) (n m:Nat) (S:Px.Rd StmtD) (hty:Reads c 77 n (okAgg typeQ) (Px.typeF c.size n)) (hst:Reads c 105 m (okAgg stmtQ) S) (hsh:Shr S) (hstr:Strict S) (hm:ts.length<n) (hm2:ts.length<m) :
  Calls Tryz.prog 80 #[.pointer (some ⟨c.R,0,none⟩)] w (RP c w (okAgg armQ) (Px.arm c.size S ts)):=by
 have HTY:Hid (Reads c 77 n (okAgg typeQ) (Px.typeF c.size n)):=hid hty
 have HST:Hid (Reads c 105 m (okAgg stmtQ) S):=hid hst
 have HSH:=hid hsh
 have HSTR:Hid (Strict S):=hid hstr
 clear hty hst hsh hstr
 have hmf:=make_func
 have H:=hid h
 have HR0:=H.out.lt.1
 clear h
 go_enter Tryz.func80,Tryz.ntmps80
 go_wp2_with fail
 refine(offset_any c ts _ (by exact H.out.f [] H.out)).mono ?_
 rintro e w' ⟨rfl,rfl⟩
 go_wp2_with fail
 refine(name_any c ts _ (by exact H.out.f [w.heap.size+1] H.out)).mono ?_
 rintro e w1 hp
 rcases hp.cases with ⟨x1,ts1,v1,hq1,hf,hi,rfl,hv⟩|⟨ts1,hq1,hf,hi,rfl⟩
 ·clear hp
  obtain rfl:=hv
  have hT:Fr [c.R,w.heap.size+1] w w1:=Fr.trans frk hf.wide
  have HD1:Hid (Blk w1 (w.heap.size+1) 138 #[.string ⟨#[]⟩,.slice none 0 0,.slice none 0 0,.int .i64 (offOf c.size ts)]):=hid ((Blk.new_at (by simp)).k hf)
  have HB1:Hid (Blk w1 (w.heap.size) 138 #[.string ⟨#[]⟩,.slice none 0 0,.slice none 0 0,.int .i64 0]):=hid ((Blk.alloc (Blk.new w _ _) _).k hf)
  have HI1:=hid hi
  have HF1:=hid ((Fr.refl [c.R] w).j hT)
  have hz1:=hf.size;try simp at hz1
  have hl1:ts1.length<ts.length:=Strict.name _ _ _ hq1.out
  clear hT hf hi
  have hlD:=HD1.out.lt
  obtain⟨d0,f0⟩:=HD1.out.df 0 (v:=.string ⟨#[]⟩) rfl
  go_wp2_with fail
  clear hlD d0 f0
  refine(opt_str c _ (ts1.length+1) _ enters_name (reads_name c _) Shr.name [40] [41] (by decide) (by decide) ts1 _ (by exact HI1.out.f [w.heap.size+1] H.out) (by omega)).mono ?_
  rintro e w2 hp
  rcases hp.cases with ⟨x2,ts2,v2,hq2,hf,hi,rfl,hv⟩|⟨ts2,hq2,hf,hi,rfl⟩
  ·clear hp
   obtain⟨p2,n2,k2,rfl⟩:=row_shp hv
   have hV2:=row_own (b:=w.heap.size+2) hv (by first|omega|(simp;done)|(simp;omega)) (Fr.refl [] _) (by simp)
   obtain⟨hT,HB2,HI2,HF2,hz2⟩:=Inv.st [w.heap.size+1] HB1.out HF1.out hf hi
   have HD2:Hid (Blk w2 (w.heap.size+1) 138 #[.string ⟨x1.toArray⟩,.slice none 0 0,.slice none 0 0,.int .i64 (offOf c.size ts)]):=hid ((HD1.out.set 0 (.string ⟨x1.toArray⟩)).k hf)
   try simp at hz2
   have HV2:=hid hV2
   have hl2:ts2.length≤ts1.length:=(Shr.opt Shr.name _ _).ok hq2.out
   clear hT hf hi hV2 hv
   have hlD:=HD2.out.lt
   obtain⟨d1,f1⟩:=HD2.out.df 1 (v:=.slice none 0 0) rfl
   go_wp2_with fail
   clear hlD d1 f1
   refine(block_any c ts2 _ (by exact HI2.out.f [w.heap.size+1] H.out) n m S HTY.out HST.out HSH.out HSTR.out (by omega) (by omega)).mono ?_
   rintro e w3 hp
   rcases hp.cases with ⟨x3,ts3,v3,hq3,hf,hi,rfl,hv⟩|⟨ts3,hq3,hf,hi,rfl⟩
   ·clear hp
    obtain⟨p3,n3,k3,rfl⟩:=row_shp hv
    have hV3:=row_own (b:=w.heap.size+2) hv (by first|omega|(simp;done)|(simp;omega)) (Fr.refl [] _) (by simp)
    have hT:Fr [c.R,w.heap.size+1] w2 w3:=Fr.trans frk hf.wide
    have HD3:Hid (Blk w3 (w.heap.size+1) 138 #[.string ⟨x1.toArray⟩,.slice p2 n2 k2,.slice none 0 0,.int .i64 (offOf c.size ts)]):=hid ((HD2.out.set 1 (.slice p2 n2 k2)).k hf)
    have HB3:=hid (HB2.out.k hT)
    have HV2_3:=hid (row_own HV2.out (Nat.le_refl _) hT (by simp;omega))
    have HI3:=hid hi
    have HF3:=hid (HF2.out.j hT)
    have hz3:=hf.size;try simp at hz3
    have HV3:=hid hV3
    have hl3:ts3.length≤ts2.length:=(shr_block HSH.out).ok hq3.out
    clear hT hf hi hV3 hv
    have hlB:w.heap.size<w3.heap.size:=by omega
    have hlD:=HD3.out.lt
    have d0:=HD3.out.at 0 (v:=.string ⟨x1.toArray⟩) rfl
    have d1:=HD3.out.at 1 (v:=.slice p2 n2 k2) rfl
    obtain⟨d2,f2⟩:=HD3.out.df 2 (v:=.slice none 0 0) rfl
    have d3:=HD3.out.at 3 (v:=.int .i64 (offOf c.size ts)) rfl
    obtain⟨b0,g0⟩:=HB3.out.df 0 (v:=.string ⟨#[]⟩) rfl
    obtain⟨b1,g1⟩:=HB3.out.df 1 (v:=.slice none 0 0) rfl
    obtain⟨b2,g2⟩:=HB3.out.df 2 (v:=.slice none 0 0) rfl
    obtain⟨b3,g3⟩:=HB3.out.df 3 (v:=.int .i64 0) rfl
    go_wp2_with fail
    refine bodyPost_ret (v:=.agg #[.string ⟨x1.toArray⟩,.slice p2 n2 k2,.slice p3 n3 k3,.int .i64 (offOf c.size ts)]) (by simp[results,Tryz.results80,go_sem,hlB,hlD,d0,d1,d2,d3,f2,b0,b1,b2,b3,g0,g1,g2,g3]) rfl ?_
    clear hlB hlD d0 d1 d2 d3 f2 b0 b1 b2 b3 g0 g1 g2 g3
    exact RP.ok (a:=.mk x1 x2 x3 (offOf c.size ts)) (by simp only[Px.arm,bind,Px.Rd.bind,offset_res,if_true,if_false,Bool.false_eq_true,hq1.out,hq2.out,hq3.out] <;> rfl) (HF3.out.jf [w.heap.size+1,w.heap.size]) (HI3.out.f [w.heap.size+1,w.heap.size] H.out) ⟨_,rfl,by rw[armQ_mk];exact rep_str.2 ⟨_,rfl,rep_sl.2 ⟨_,_,rfl,(row_own (b:=w.heap.size) HV2_3.out (by first|omega|(simp;done)|(simp;omega)) (X:=[w.heap.size+1,w.heap.size]) frk (by first|omega|(simp;done)|(simp;omega))),rep_sl.2 ⟨_,_,rfl,(row_own (b:=w.heap.size) HV3.out (by first|omega|(simp;done)|(simp;omega)) (X:=[w.heap.size+1,w.heap.size]) frk (by first|omega|(simp;done)|(simp;omega))),rep_int.2 ⟨_,rfl,rep_nil.2 rfl⟩⟩⟩⟩⟩
   ·go_wp2_with fail
    exact⟨rfl,RP.bad (by simp only[Px.arm,bind,Px.Rd.bind,offset_res,if_true,if_false,Bool.false_eq_true,hq1.out,hq2.out,hq3.out]) (HF2.out.jt [w.heap.size+1] hf) hi⟩
  ·go_wp2_with fail
   exact⟨rfl,RP.bad (by simp only[Px.arm,bind,Px.Rd.bind,offset_res,if_true,if_false,Bool.false_eq_true,hq1.out,hq2.out]) (HF1.out.jt [w.heap.size+1] hf) hi⟩
 ·go_wp2_with fail
  exact⟨rfl,RP.bad (by simp only[Px.arm,bind,Px.Rd.bind,offset_res,if_true,if_false,Bool.false_eq_true,hq1.out]) ((Fr.refl [c.R] w).jt [w.heap.size+1] hf) hi⟩
set_option maxRecDepth 100000 in
set_option maxHeartbeats 1600000 in
theorem localFunction_any (c:Ctx) (off:Nat) (ts:List Tk) (w:World) (h:Inv c ts w) (n m:Nat) (S:Px.Rd StmtD) (hty:Reads c 77 n (okAgg typeQ) (Px.typeF c.size n)) (hst:Reads c 105 m (okAgg stmtQ) S) (hsh:Shr S) (hstr:Strict S) (hm:ts.length<n) (hm2:ts.length<m) :
  Calls Tryz.prog 83 #[.pointer (some ⟨c.R,0,none⟩),.int .i64 off] w (RP c w (okAgg funcQ) (Px.localFunction c.size n S off ts)):=by
 have HTY:Hid (Reads c 77 n (okAgg typeQ) (Px.typeF c.size n)):=hid hty
 have HST:Hid (Reads c 105 m (okAgg stmtQ) S):=hid hst
 have HSH:=hid hsh
 have HSTR:Hid (Strict S):=hid hstr
 clear hty hst hsh hstr
 have hmf:=make_func
 have H:=hid h
 have HR0:=H.out.lt.1
 clear h
 go_enter Tryz.func83,Tryz.ntmps83
 go_wp2_with fail
 refine(name_any c ts _ (by exact H.out.f [w.heap.size+1] H.out)).mono ?_
 rintro e w1 hp
 rcases hp.cases with ⟨x1,ts1,v1,hq1,hf,hi,rfl,hv⟩|⟨ts1,hq1,hf,hi,rfl⟩
 ·clear hp
  obtain rfl:=hv
  have hT:Fr [c.R,w.heap.size+1] w w1:=Fr.trans frk hf.wide
  have HD1:Hid (Blk w1 (w.heap.size+1) 42 #[.string ⟨#[]⟩,.slice none 0 0,.slice none 0 0,.slice none 0 0,.slice none 0 0,.string ⟨#[]⟩,.slice none 0 0,.int .i64 0,.slice none 0 0,.int .i64 off]):=hid ((Blk.new_at (by simp)).k hf)
  have HB1:Hid (Blk w1 (w.heap.size) 42 #[.string ⟨#[]⟩,.slice none 0 0,.slice none 0 0,.slice none 0 0,.slice none 0 0,.string ⟨#[]⟩,.slice none 0 0,.int .i64 0,.slice none 0 0,.int .i64 0]):=hid ((Blk.alloc (Blk.new w _ _) _).k hf)
  have HI1:=hid hi
  have HF1:=hid ((Fr.refl [c.R] w).j hT)
  have hz1:=hf.size;try simp at hz1
  have hl1:ts1.length<ts.length:=Strict.name _ _ _ hq1.out
  clear hT hf hi
  have hlD:=HD1.out.lt
  obtain⟨d0,f0⟩:=HD1.out.df 0 (v:=.string ⟨#[]⟩) rfl
  go_wp2_with fail
  clear hlD d0 f0
  refine(pos_arg c _ n _ enters_capture (reads_capture c n HTY.out) (shr_capture _ _) [91] [93] (by decide) (by decide) ts1 _ (by exact HI1.out.f [w.heap.size+1] H.out) (by omega)).mono ?_
  rintro e w2 hp
  rcases hp.cases with ⟨x2,ts2,v2,hq2,hf,hi,rfl,hv⟩|⟨ts2,hq2,hf,hi,rfl⟩
  ·clear hp
   obtain⟨p2,n2,k2,rfl⟩:=row_shp hv
   have hV2:=row_own (b:=w.heap.size+2) hv (by first|omega|(simp;done)|(simp;omega)) (Fr.refl [] _) (by simp)
   obtain⟨hT,HB2,HI2,HF2,hz2⟩:=Inv.st [w.heap.size+1] HB1.out HF1.out hf hi
   have HD2:Hid (Blk w2 (w.heap.size+1) 42 #[.string ⟨x1.toArray⟩,.slice none 0 0,.slice none 0 0,.slice none 0 0,.slice none 0 0,.string ⟨#[]⟩,.slice none 0 0,.int .i64 0,.slice none 0 0,.int .i64 off]):=hid ((HD1.out.set 0 (.string ⟨x1.toArray⟩)).k hf)
   try simp at hz2
   have HV2:=hid hV2
   have hl2:ts2.length≤ts1.length:=(Shr.pos (shr_capture _ _) _ _).ok hq2.out
   clear hT hf hi hV2 hv
   have hlD:=HD2.out.lt
   obtain⟨d3,f3⟩:=HD2.out.df 3 (v:=.slice none 0 0) rfl
   go_wp2_with fail
   clear hlD d3 f3
   refine(signature_any c (.string ⟨x1.toArray⟩) (.slice none 0 0) (.slice none 0 0) (.slice p2 n2 k2) (.slice none 0 0) (.int .i64 off) ts2 _ (by exact HI2.out.f [w.heap.size+1] H.out) (w.heap.size+1) (H.out.apart (by simp)) (by exact(HD2.out.set 3 (.slice p2 n2 k2))) n HTY.out (by omega)).mono ?_
   rintro e w3 hp
   rcases hp.cases with ⟨x3,ts3,cs3,hq3,hf,hi,rfl,hDn,hv⟩|⟨ts3,hq3,hf,hi,rfl⟩
   ·clear hp
    obtain⟨p3,n3,k3,s3_0,p3_1,n3_1,c3_1,i3_2,rfl,hrow,hrep⟩:=hv
    have hT:Fr [c.R,w.heap.size+1] w2 w3:=Fr.trans frk hf
    have HD3:Hid (Blk w3 (w.heap.size+1) 42 #[.string ⟨x1.toArray⟩,.slice none 0 0,.slice none 0 0,.slice p2 n2 k2,.slice p3 n3 k3,.string s3_0,.slice p3_1 n3_1 c3_1,.int .i64 i3_2,.slice none 0 0,.int .i64 off]):=hid hDn
    have HB3:=hid (HB2.out.k hT)
    have hV3a:=row_own (b:=w.heap.size+2) hrow (by first|omega|(simp;done)|(simp;omega)) (Fr.refl [] _) (by simp)
    have hV3b:Rep w3 (fun k=>w.heap.size+2≤k) _ _:=hrep.mono (fun k hk _=>⟨by (try simp at hk);omega,rfl⟩)
    have HV2_3:=hid (row_own HV2.out (Nat.le_refl _) hT (by simp;omega))
    have HV3a:=hid hV3a
    have HV3b:=hid hV3b
    have HI3:=hid hi
    have HF3:=hid (HF2.out.j hT)
    have hz3:=hf.size;try simp at hz3
    have hl3:ts3.length≤ts2.length:=(shr_signature _ _).ok hq3.out
    clear hT hf hi hrow hrep hV3a hV3b hDn
    have hlD:=HD3.out.lt
    go_wp2_with fail
    clear hlD
    refine(block_any c ts3 _ (by exact HI3.out.f [w.heap.size+1] H.out) n m S HTY.out HST.out HSH.out HSTR.out (by omega) (by omega)).mono ?_
    rintro e w4 hp
    rcases hp.cases with ⟨x4,ts4,v4,hq4,hf,hi,rfl,hv⟩|⟨ts4,hq4,hf,hi,rfl⟩
    ·clear hp
     obtain⟨p4,n4,k4,rfl⟩:=row_shp hv
     have hV4:=row_own (b:=w.heap.size+2) hv (by first|omega|(simp;done)|(simp;omega)) (Fr.refl [] _) (by simp)
     have hT:Fr [c.R,w.heap.size+1] w3 w4:=Fr.trans frk hf.wide
     have HD4:=hid (HD3.out.k hf)
     have HB4:=hid (HB3.out.k hT)
     have HV2_4:=hid (row_own HV2_3.out (Nat.le_refl _) hT (by simp;omega))
     have HV3a_4:=hid (row_own HV3a.out (Nat.le_refl _) hT (by simp;omega))
     have HV3b_4:=hid (rep_own HV3b.out hT (by simp;omega))
     have HI4:=hid hi
     have HF4:=hid (HF3.out.j hT)
     have hz4:=hf.size;try simp at hz4
     have HV4:=hid hV4
     have hl4:ts4.length≤ts3.length:=(shr_block HSH.out).ok hq4.out
     clear hT hf hi hV4 hv
     have hlB:w.heap.size<w4.heap.size:=by omega
     have hlD:=HD4.out.lt
     have d0:=HD4.out.at 0 (v:=.string ⟨x1.toArray⟩) rfl
     have d1:=HD4.out.at 1 (v:=.slice none 0 0) rfl
     have d2:=HD4.out.at 2 (v:=.slice none 0 0) rfl
     have d3:=HD4.out.at 3 (v:=.slice p2 n2 k2) rfl
     have d4:=HD4.out.at 4 (v:=.slice p3 n3 k3) rfl
     have d5:=HD4.out.at 5 (v:=.string s3_0) rfl
     have d6:=HD4.out.at 6 (v:=.slice p3_1 n3_1 c3_1) rfl
     have d7:=HD4.out.at 7 (v:=.int .i64 i3_2) rfl
     obtain⟨d8,f8⟩:=HD4.out.df 8 (v:=.slice none 0 0) rfl
     have d9:=HD4.out.at 9 (v:=.int .i64 off) rfl
     obtain⟨b0,g0⟩:=HB4.out.df 0 (v:=.string ⟨#[]⟩) rfl
     obtain⟨b1,g1⟩:=HB4.out.df 1 (v:=.slice none 0 0) rfl
     obtain⟨b2,g2⟩:=HB4.out.df 2 (v:=.slice none 0 0) rfl
     obtain⟨b3,g3⟩:=HB4.out.df 3 (v:=.slice none 0 0) rfl
     obtain⟨b4,g4⟩:=HB4.out.df 4 (v:=.slice none 0 0) rfl
     obtain⟨b5,g5⟩:=HB4.out.df 5 (v:=.string ⟨#[]⟩) rfl
     obtain⟨b6,g6⟩:=HB4.out.df 6 (v:=.slice none 0 0) rfl
     obtain⟨b7,g7⟩:=HB4.out.df 7 (v:=.int .i64 0) rfl
     obtain⟨b8,g8⟩:=HB4.out.df 8 (v:=.slice none 0 0) rfl
     obtain⟨b9,g9⟩:=HB4.out.df 9 (v:=.int .i64 0) rfl
     go_wp2_with fail
     refine bodyPost_ret (v:=.agg #[.string ⟨x1.toArray⟩,.slice none 0 0,.slice none 0 0,.slice p2 n2 k2,.slice p3 n3 k3,.string s3_0,.slice p3_1 n3_1 c3_1,.int .i64 i3_2,.slice p4 n4 k4,.int .i64 off]) (by simp[results,Tryz.results83,go_sem,hlB,hlD,d0,d1,d2,d3,d4,d5,d6,d7,d8,d9,f8,b0,b1,b2,b3,b4,b5,b6,b7,b8,b9,g0,g1,g2,g3,g4,g5,g6,g7,g8,g9]) rfl ?_
     clear hlB hlD d0 d1 d2 d3 d4 d5 d6 d7 d8 d9 f8 b0 b1 b2 b3 b4 b5 b6 b7 b8 b9 g0 g1 g2 g3 g4 g5 g6 g7 g8 g9
     exact RP.ok (a:=.mk x1 [] [] x2 x3.1 x3.2 x4 off) (by simp only[Px.localFunction,bind,Px.Rd.bind,offset_res,if_true,if_false,Bool.false_eq_true,hq1.out,hq2.out,hq3.out,hq4.out] <;> rfl) (HF4.out.jf [w.heap.size+1,w.heap.size]) (HI4.out.f [w.heap.size+1,w.heap.size] H.out) ⟨_,rfl,by rw[funcQ_mk];exact rep_str.2 ⟨_,rfl,rep_sl.2 ⟨_,_,rfl,RowV.nil _ _ _ _,rep_sl.2 ⟨_,_,rfl,RowV.nil _ _ _ _,rep_sl.2 ⟨_,_,rfl,(row_own (b:=w.heap.size) HV2_4.out (by first|omega|(simp;done)|(simp;omega)) (X:=[w.heap.size+1,w.heap.size]) frk (by first|omega|(simp;done)|(simp;omega))),rep_sl.2 ⟨_,_,rfl,(row_own (b:=w.heap.size) HV3a_4.out (by first|omega|(simp;done)|(simp;omega)) (X:=[w.heap.size+1,w.heap.size]) frk (by first|omega|(simp;done)|(simp;omega))),Rep.app (cs:=[.string s3_0,.slice p3_1 n3_1 c3_1,.int .i64 i3_2]) (rep_own (b:=w.heap.size) HV3b_4.out (X:=[w.heap.size+1,w.heap.size]) frk (by first|omega|(simp;done)|(simp;omega)) (by first|omega|(simp;done)|(simp;omega))) (rep_sl.2 ⟨_,_,rfl,(row_own (b:=w.heap.size) HV4.out (by first|omega|(simp;done)|(simp;omega)) (X:=[w.heap.size+1,w.heap.size]) frk (by first|omega|(simp;done)|(simp;omega))),rep_int.2 ⟨_,rfl,rep_nil.2 rfl⟩⟩)⟩⟩⟩⟩⟩⟩
    ·go_wp2_with fail
     exact⟨rfl,RP.bad (by simp only[Px.localFunction,bind,Px.Rd.bind,offset_res,if_true,if_false,Bool.false_eq_true,hq1.out,hq2.out,hq3.out,hq4.out]) (HF3.out.jt [w.heap.size+1] hf) hi⟩
   ·go_wp2_with fail
    exact⟨rfl,RP.bad (by simp only[Px.localFunction,bind,Px.Rd.bind,offset_res,if_true,if_false,Bool.false_eq_true,hq1.out,hq2.out,hq3.out]) (HF2.out.join (Fr.trans frk hf) (by simp)) hi⟩
  ·go_wp2_with fail
   exact⟨rfl,RP.bad (by simp only[Px.localFunction,bind,Px.Rd.bind,offset_res,if_true,if_false,Bool.false_eq_true,hq1.out,hq2.out]) (HF1.out.jt [w.heap.size+1] hf) hi⟩
 ·go_wp2_with fail
  exact⟨rfl,RP.bad (by simp only[Px.localFunction,bind,Px.Rd.bind,offset_res,if_true,if_false,Bool.false_eq_true,hq1.out]) ((Fr.refl [c.R] w).jt [w.heap.size+1] hf) hi⟩
set_option maxRecDepth 100000 in
set_option maxHeartbeats 1600000 in
theorem function_gen (c:Ctx) (off:Nat) (ts:List Tk) (w:World) (h:Inv c ts w) (n m:Nat) (S:Px.Rd StmtD) (hty:Reads c 77 n (okAgg typeQ) (Px.typeF c.size n)) (hst:Reads c 105 m (okAgg stmtQ) S) (hsh:Shr S) (hstr:Strict S) (hm:ts.length<n) (hm2:ts.length<m) :
  Calls Tryz.prog 93 #[.pointer (some ⟨c.R,0,none⟩),.int .i64 off] w (RP c w (okAgg funcQ) (functionS c.size n S off ts)):=by
 have HTY:Hid (Reads c 77 n (okAgg typeQ) (Px.typeF c.size n)):=hid hty
 have HST:Hid (Reads c 105 m (okAgg stmtQ) S):=hid hst
 have HSH:=hid hsh
 have HSTR:Hid (Strict S):=hid hstr
 clear hty hst hsh hstr
 have hmf:=make_func
 have H:=hid h
 have HR0:=H.out.lt.1
 clear h
 go_enter Tryz.func93,Tryz.ntmps93
 go_wp2_with fail
 refine(name_any c ts _ (by exact H.out.f [w.heap.size+1] H.out)).mono ?_
 rintro e w1 hp
 rcases hp.cases with ⟨x1,ts1,v1,hq1,hf,hi,rfl,hv⟩|⟨ts1,hq1,hf,hi,rfl⟩
 ·clear hp
  obtain rfl:=hv
  have hT:Fr [c.R,w.heap.size+1] w w1:=Fr.trans frk hf.wide
  have HD1:Hid (Blk w1 (w.heap.size+1) 42 #[.string ⟨#[]⟩,.slice none 0 0,.slice none 0 0,.slice none 0 0,.slice none 0 0,.string ⟨#[]⟩,.slice none 0 0,.int .i64 0,.slice none 0 0,.int .i64 off]):=hid ((Blk.new_at (by simp)).k hf)
  have HB1:Hid (Blk w1 (w.heap.size) 42 #[.string ⟨#[]⟩,.slice none 0 0,.slice none 0 0,.slice none 0 0,.slice none 0 0,.string ⟨#[]⟩,.slice none 0 0,.int .i64 0,.slice none 0 0,.int .i64 0]):=hid ((Blk.alloc (Blk.new w _ _) _).k hf)
  have HI1:=hid hi
  have HF1:=hid ((Fr.refl [c.R] w).j hT)
  have hz1:=hf.size;try simp at hz1
  have hl1:ts1.length<ts.length:=Strict.name _ _ _ hq1.out
  clear hT hf hi
  have hlD:=HD1.out.lt
  obtain⟨d0,f0⟩:=HD1.out.df 0 (v:=.string ⟨#[]⟩) rfl
  go_wp2_with fail
  clear hlD d0 f0
  refine(params_any c ts1 _ (by exact HI1.out.f [w.heap.size+1] H.out)).mono ?_
  rintro e w2 hp
  rcases hp.cases with ⟨x2,ts2,v2,hq2,hf,hi,rfl,hv⟩|⟨ts2,hq2,hf,hi,rfl⟩
  ·clear hp
   obtain⟨p2,n2,k2,rfl⟩:=row_shp hv
   have hV2:=row_own (b:=w.heap.size+2) hv (by first|omega|(simp;done)|(simp;omega)) (Fr.refl [] _) (by simp)
   obtain⟨hT,HB2,HI2,HF2,hz2⟩:=Inv.st [w.heap.size+1] HB1.out HF1.out hf hi
   have HD2:Hid (Blk w2 (w.heap.size+1) 42 #[.string ⟨x1.toArray⟩,.slice none 0 0,.slice none 0 0,.slice none 0 0,.slice none 0 0,.string ⟨#[]⟩,.slice none 0 0,.int .i64 0,.slice none 0 0,.int .i64 off]):=hid ((HD1.out.set 0 (.string ⟨x1.toArray⟩)).k hf)
   try simp at hz2
   have HV2:=hid hV2
   have hl2:ts2.length≤ts1.length:=(shr_params).ok hq2.out
   clear hT hf hi hV2 hv
   have hlD:=HD2.out.lt
   obtain⟨d1,f1⟩:=HD2.out.df 1 (v:=.slice none 0 0) rfl
   go_wp2_with fail
   clear hlD d1 f1
   refine(signature_any c (.string ⟨x1.toArray⟩) (.slice p2 n2 k2) (.slice none 0 0) (.slice none 0 0) (.slice none 0 0) (.int .i64 off) ts2 _ (by exact HI2.out.f [w.heap.size+1] H.out) (w.heap.size+1) (H.out.apart (by simp)) (by exact(HD2.out.set 1 (.slice p2 n2 k2))) n HTY.out (by omega)).mono ?_
   rintro e w3 hp
   rcases hp.cases with ⟨x3,ts3,cs3,hq3,hf,hi,rfl,hDn,hv⟩|⟨ts3,hq3,hf,hi,rfl⟩
   ·clear hp
    obtain⟨p3,n3,k3,s3_0,p3_1,n3_1,c3_1,i3_2,rfl,hrow,hrep⟩:=hv
    have hT:Fr [c.R,w.heap.size+1] w2 w3:=Fr.trans frk hf
    have HD3:Hid (Blk w3 (w.heap.size+1) 42 #[.string ⟨x1.toArray⟩,.slice p2 n2 k2,.slice none 0 0,.slice none 0 0,.slice p3 n3 k3,.string s3_0,.slice p3_1 n3_1 c3_1,.int .i64 i3_2,.slice none 0 0,.int .i64 off]):=hid hDn
    have HB3:=hid (HB2.out.k hT)
    have hV3a:=row_own (b:=w.heap.size+2) hrow (by first|omega|(simp;done)|(simp;omega)) (Fr.refl [] _) (by simp)
    have hV3b:Rep w3 (fun k=>w.heap.size+2≤k) _ _:=hrep.mono (fun k hk _=>⟨by (try simp at hk);omega,rfl⟩)
    have HV2_3:=hid (row_own HV2.out (Nat.le_refl _) hT (by simp;omega))
    have HV3a:=hid hV3a
    have HV3b:=hid hV3b
    have HI3:=hid hi
    have HF3:=hid (HF2.out.j hT)
    have hz3:=hf.size;try simp at hz3
    have hl3:ts3.length≤ts2.length:=(shr_signature _ _).ok hq3.out
    clear hT hf hi hrow hrep hV3a hV3b hDn
    have hlD:=HD3.out.lt
    go_wp2_with fail
    clear hlD
    refine(bounds_any c ts3 _ (by exact HI3.out.f [w.heap.size+1] H.out)).mono ?_
    rintro e w4 hp
    rcases hp.cases with ⟨x4,ts4,v4,hq4,hf,hi,rfl,hv⟩|⟨ts4,hq4,hf,hi,rfl⟩
    ·clear hp
     obtain⟨p4,n4,k4,rfl⟩:=row_shp hv
     have hV4:=row_own (b:=w.heap.size+2) hv (by first|omega|(simp;done)|(simp;omega)) (Fr.refl [] _) (by simp)
     have hT:Fr [c.R,w.heap.size+1] w3 w4:=Fr.trans frk hf.wide
     have HD4:=hid (HD3.out.k hf)
     have HB4:=hid (HB3.out.k hT)
     have HV2_4:=hid (row_own HV2_3.out (Nat.le_refl _) hT (by simp;omega))
     have HV3a_4:=hid (row_own HV3a.out (Nat.le_refl _) hT (by simp;omega))
     have HV3b_4:=hid (rep_own HV3b.out hT (by simp;omega))
     have HI4:=hid hi
     have HF4:=hid (HF3.out.j hT)
     have hz4:=hf.size;try simp at hz4
     have HV4:=hid hV4
     have hl4:ts4.length≤ts3.length:=(shr_bounds _).ok hq4.out
     clear hT hf hi hV4 hv
     have hlD:=HD4.out.lt
     obtain⟨d2,f2⟩:=HD4.out.df 2 (v:=.slice none 0 0) rfl
     go_wp2_with fail
     clear hlD d2 f2
     refine(block_any c ts4 _ (by exact HI4.out.f [w.heap.size+1] H.out) n m S HTY.out HST.out HSH.out HSTR.out (by omega) (by omega)).mono ?_
     rintro e w5 hp
     rcases hp.cases with ⟨x5,ts5,v5,hq5,hf,hi,rfl,hv⟩|⟨ts5,hq5,hf,hi,rfl⟩
     ·clear hp
      obtain⟨p5,n5,k5,rfl⟩:=row_shp hv
      have hV5:=row_own (b:=w.heap.size+2) hv (by first|omega|(simp;done)|(simp;omega)) (Fr.refl [] _) (by simp)
      have hT:Fr [c.R,w.heap.size+1] w4 w5:=Fr.trans frk hf.wide
      have HD5:Hid (Blk w5 (w.heap.size+1) 42 #[.string ⟨x1.toArray⟩,.slice p2 n2 k2,.slice p4 n4 k4,.slice none 0 0,.slice p3 n3 k3,.string s3_0,.slice p3_1 n3_1 c3_1,.int .i64 i3_2,.slice none 0 0,.int .i64 off]):=hid ((HD4.out.set 2 (.slice p4 n4 k4)).k hf)
      have HB5:=hid (HB4.out.k hT)
      have HV2_5:=hid (row_own HV2_4.out (Nat.le_refl _) hT (by simp;omega))
      have HV3a_5:=hid (row_own HV3a_4.out (Nat.le_refl _) hT (by simp;omega))
      have HV3b_5:=hid (rep_own HV3b_4.out hT (by simp;omega))
      have HV4_5:=hid (row_own HV4.out (Nat.le_refl _) hT (by simp;omega))
      have HI5:=hid hi
      have HF5:=hid (HF4.out.j hT)
      have hz5:=hf.size;try simp at hz5
      have HV5:=hid hV5
      have hl5:ts5.length≤ts4.length:=(shr_block HSH.out).ok hq5.out
      clear hT hf hi hV5 hv
      have hlB:w.heap.size<w5.heap.size:=by omega
      have hlD:=HD5.out.lt
      have d0:=HD5.out.at 0 (v:=.string ⟨x1.toArray⟩) rfl
      have d1:=HD5.out.at 1 (v:=.slice p2 n2 k2) rfl
      have d2:=HD5.out.at 2 (v:=.slice p4 n4 k4) rfl
      have d3:=HD5.out.at 3 (v:=.slice none 0 0) rfl
      have d4:=HD5.out.at 4 (v:=.slice p3 n3 k3) rfl
      have d5:=HD5.out.at 5 (v:=.string s3_0) rfl
      have d6:=HD5.out.at 6 (v:=.slice p3_1 n3_1 c3_1) rfl
      have d7:=HD5.out.at 7 (v:=.int .i64 i3_2) rfl
      obtain⟨d8,f8⟩:=HD5.out.df 8 (v:=.slice none 0 0) rfl
      have d9:=HD5.out.at 9 (v:=.int .i64 off) rfl
      obtain⟨b0,g0⟩:=HB5.out.df 0 (v:=.string ⟨#[]⟩) rfl
      obtain⟨b1,g1⟩:=HB5.out.df 1 (v:=.slice none 0 0) rfl
      obtain⟨b2,g2⟩:=HB5.out.df 2 (v:=.slice none 0 0) rfl
      obtain⟨b3,g3⟩:=HB5.out.df 3 (v:=.slice none 0 0) rfl
      obtain⟨b4,g4⟩:=HB5.out.df 4 (v:=.slice none 0 0) rfl
      obtain⟨b5,g5⟩:=HB5.out.df 5 (v:=.string ⟨#[]⟩) rfl
      obtain⟨b6,g6⟩:=HB5.out.df 6 (v:=.slice none 0 0) rfl
      obtain⟨b7,g7⟩:=HB5.out.df 7 (v:=.int .i64 0) rfl
      obtain⟨b8,g8⟩:=HB5.out.df 8 (v:=.slice none 0 0) rfl
      obtain⟨b9,g9⟩:=HB5.out.df 9 (v:=.int .i64 0) rfl
      go_wp2_with fail
      refine bodyPost_ret (v:=.agg #[.string ⟨x1.toArray⟩,.slice p2 n2 k2,.slice p4 n4 k4,.slice none 0 0,.slice p3 n3 k3,.string s3_0,.slice p3_1 n3_1 c3_1,.int .i64 i3_2,.slice p5 n5 k5,.int .i64 off]) (by simp[results,Tryz.results93,go_sem,hlB,hlD,d0,d1,d2,d3,d4,d5,d6,d7,d8,d9,f8,b0,b1,b2,b3,b4,b5,b6,b7,b8,b9,g0,g1,g2,g3,g4,g5,g6,g7,g8,g9]) rfl ?_
      clear hlB hlD d0 d1 d2 d3 d4 d5 d6 d7 d8 d9 f8 b0 b1 b2 b3 b4 b5 b6 b7 b8 b9 g0 g1 g2 g3 g4 g5 g6 g7 g8 g9
      exact RP.ok (a:=.mk x1 x2 x4 [] x3.1 x3.2 x5 off) (by simp only[functionS,bind,Px.Rd.bind,offset_res,if_true,if_false,Bool.false_eq_true,hq1.out,hq2.out,hq3.out,hq4.out,hq5.out] <;> rfl) (HF5.out.jf [w.heap.size+1,w.heap.size]) (HI5.out.f [w.heap.size+1,w.heap.size] H.out) ⟨_,rfl,by rw[funcQ_mk];exact rep_str.2 ⟨_,rfl,rep_sl.2 ⟨_,_,rfl,(row_own (b:=w.heap.size) HV2_5.out (by first|omega|(simp;done)|(simp;omega)) (X:=[w.heap.size+1,w.heap.size]) frk (by first|omega|(simp;done)|(simp;omega))),rep_sl.2 ⟨_,_,rfl,(row_own (b:=w.heap.size) HV4_5.out (by first|omega|(simp;done)|(simp;omega)) (X:=[w.heap.size+1,w.heap.size]) frk (by first|omega|(simp;done)|(simp;omega))),rep_sl.2 ⟨_,_,rfl,RowV.nil _ _ _ _,rep_sl.2 ⟨_,_,rfl,(row_own (b:=w.heap.size) HV3a_5.out (by first|omega|(simp;done)|(simp;omega)) (X:=[w.heap.size+1,w.heap.size]) frk (by first|omega|(simp;done)|(simp;omega))),Rep.app (cs:=[.string s3_0,.slice p3_1 n3_1 c3_1,.int .i64 i3_2]) (rep_own (b:=w.heap.size) HV3b_5.out (X:=[w.heap.size+1,w.heap.size]) frk (by first|omega|(simp;done)|(simp;omega)) (by first|omega|(simp;done)|(simp;omega))) (rep_sl.2 ⟨_,_,rfl,(row_own (b:=w.heap.size) HV5.out (by first|omega|(simp;done)|(simp;omega)) (X:=[w.heap.size+1,w.heap.size]) frk (by first|omega|(simp;done)|(simp;omega))),rep_int.2 ⟨_,rfl,rep_nil.2 rfl⟩⟩)⟩⟩⟩⟩⟩⟩
     ·go_wp2_with fail
      exact⟨rfl,RP.bad (by simp only[functionS,bind,Px.Rd.bind,offset_res,if_true,if_false,Bool.false_eq_true,hq1.out,hq2.out,hq3.out,hq4.out,hq5.out]) (HF4.out.jt [w.heap.size+1] hf) hi⟩
    ·go_wp2_with fail
     exact⟨rfl,RP.bad (by simp only[functionS,bind,Px.Rd.bind,offset_res,if_true,if_false,Bool.false_eq_true,hq1.out,hq2.out,hq3.out,hq4.out]) (HF3.out.jt [w.heap.size+1] hf) hi⟩
   ·go_wp2_with fail
    exact⟨rfl,RP.bad (by simp only[functionS,bind,Px.Rd.bind,offset_res,if_true,if_false,Bool.false_eq_true,hq1.out,hq2.out,hq3.out]) (HF2.out.join (Fr.trans frk hf) (by simp)) hi⟩
  ·go_wp2_with fail
   exact⟨rfl,RP.bad (by simp only[functionS,bind,Px.Rd.bind,offset_res,if_true,if_false,Bool.false_eq_true,hq1.out,hq2.out]) (HF1.out.jt [w.heap.size+1] hf) hi⟩
 ·go_wp2_with fail
  exact⟨rfl,RP.bad (by simp only[functionS,bind,Px.Rd.bind,offset_res,if_true,if_false,Bool.false_eq_true,hq1.out]) ((Fr.refl [c.R] w).jt [w.heap.size+1] hf) hi⟩
end Go.Proofs.YtghohohagbbajaaGreatDoor
