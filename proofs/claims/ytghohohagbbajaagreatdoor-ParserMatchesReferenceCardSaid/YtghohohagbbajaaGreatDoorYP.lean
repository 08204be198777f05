/- part of the proof -/
import Derived.Test.YtghohohagbbajaaGreatDoorYO
set_option linter.unusedVariables false
set_option linter.unusedSimpArgs false
set_option linter.unusedSectionVars false
namespace Go.Proofs.YtghohohagbbajaaGreatDoor
open Go.RowKit Go.Lib
open Lx (Tk)
open Px (Txt TyE VarD DataD TraitD BoundD ImplD ArgD ExprD StmtD ArmD FuncD ModD)
set_option maxRecDepth 100000 in
set_option maxHeartbeats 1600000 in
theorem bound_any (c:Ctx) (ts:List Tk) (w:World) (h:Inv c ts w) :
  Calls Tryz.prog 139 #[.pointer (some ⟨c.R,0,none⟩)] w (RP c w (okAgg boundQ) (Px.bound c.size ts)):=by
 have H:=hid h
 have HR0:=H.out.lt.1
 clear h
 go_enter Tryz.func139,Tryz.ntmps139
 go_wp2_with fail
 refine(offset_any c ts _ (by exact H.out.f [] H.out)).mono ?_
 rintro e w' ⟨rfl,rfl⟩
 go_wp2_with fail
 refine(name_any c ts _ (by exact H.out.f [w.heap.size+1] H.out)).mono ?_
 rintro e w1 hp
 rcases hp.cases with ⟨x1,ts1,v1,hq1,hf,hi,rfl,hv⟩|⟨ts1,hq1,hf,hi,rfl⟩
 ·clear hp
  obtain rfl:=hv
  have hT:Fr [c.R,w.heap.size+1] w w1:=Fr.trans frk hf.wide
  have HD1:Hid (Blk w1 (w.heap.size+1) 131 #[.string ⟨#[]⟩,.string ⟨#[]⟩,.int .i64 (offOf c.size ts)]):=hid ((Blk.new_at (by simp)).k hf)
  have HB1:Hid (Blk w1 (w.heap.size) 131 #[.string ⟨#[]⟩,.string ⟨#[]⟩,.int .i64 0]):=hid (((Blk.new w _ _).alloc _).k hf)
  have HI1:=hid hi
  have HF1:=hid ((Fr.refl [c.R] w).j hT)
  have hz1:=hf.size;try simp at hz1
  have hl1:ts1.length<ts.length:=Strict.name _ _ _ hq1.out
  clear hT hf hi
  obtain⟨d0,f0⟩:=HD1.out.df 0 (v:=.string ⟨#[]⟩) rfl
  go_wp2_with fail
  clear d0 f0
  refine(expect_any c ts1 [[58]] _ _ 1 (by exact HI1.out.f [w.heap.size+1] H.out) rfl (by exact Blk.new_at (by simp)) rfl (by decide)).mono ?_
  rintro e w2 hp
  rcases hp.cases with ⟨x2,ts2,v2,hq2,hf,hi,rfl,hv⟩|⟨ts2,hq2,hf,hi,rfl⟩
  ·clear hp
   obtain rfl:=hv
   obtain⟨hT,HB2,HI2,HF2,hz2⟩:=Inv.st [w.heap.size+1] HB1.out HF1.out hf hi
   have HD2:Hid (Blk w2 (w.heap.size+1) 131 #[.string ⟨x1.toArray⟩,.string ⟨#[]⟩,.int .i64 (offOf c.size ts)]):=hid (((HD1.out.set 0 (.string ⟨x1.toArray⟩)).alloc _).k hf)
   try simp at hz2
   have hl2:ts2.length≤ts1.length:=(Shr.expect _).ok hq2.out
   clear hT hf hi
   go_wp2_with fail
   refine(name_any c ts2 _ (by exact HI2.out.f [w.heap.size+1] H.out)).mono ?_
   rintro e w3 hp
   rcases hp.cases with ⟨x3,ts3,v3,hq3,hf,hi,rfl,hv⟩|⟨ts3,hq3,hf,hi,rfl⟩
   ·clear hp
    obtain rfl:=hv
    obtain⟨hT,HB3,HI3,HF3,hz3⟩:=Inv.st [w.heap.size+1] HB2.out HF2.out hf hi
    have HD3:=hid (HD2.out.k hf)
    try simp at hz3
    have hl3:ts3.length<ts2.length:=Strict.name _ _ _ hq3.out
    clear hT hf hi
    obtain⟨d0,d1,d2⟩:=HD3.out.c3
    have f1:=HD3.out.frozen 1
    obtain⟨b0,b1,b2,g0,g1,g2⟩:=HB3.out.cf3
    go_wp2_with fail
    refine bodyPost_ret (v:=.agg #[.string ⟨x1.toArray⟩,.string ⟨x3.toArray⟩,.int .i64 (offOf c.size ts)]) (by simp[results,Tryz.results139,go_sem,d0,d1,d2,f1,b0,b1,b2,g0,g1,g2]) rfl ?_
    clear d0 d1 d2 f1 b0 b1 b2 g0 g1 g2
    exact RP.ok (by simp only[Px.bound,bind,Px.Rd.bind,offset_res,if_true,if_false,Bool.false_eq_true,hq1.out,hq2.out,hq3.out] <;> rfl) (HF3.out.jf [w.heap.size+1,w.heap.size]) (HI3.out.f [w.heap.size+1,w.heap.size] H.out) ⟨_,rfl,rep_str.2 ⟨_,rfl,rep_str.2 ⟨_,rfl,rep_int.2 ⟨_,rfl,rep_nil.2 rfl⟩⟩⟩⟩
   ·go_wp2_with fail
    exact⟨rfl,RP.bad (by simp only[Px.bound,bind,Px.Rd.bind,offset_res,if_true,if_false,Bool.false_eq_true,hq1.out,hq2.out,hq3.out]) (HF2.out.jt [w.heap.size+1] hf) hi⟩
  ·go_wp2_with fail
   exact⟨rfl,RP.bad (by simp only[Px.bound,bind,Px.Rd.bind,offset_res,if_true,if_false,Bool.false_eq_true,hq1.out,hq2.out]) (HF1.out.jt [w.heap.size+1] hf) hi⟩
 ·go_wp2_with fail
  exact⟨rfl,RP.bad (by simp only[Px.bound,bind,Px.Rd.bind,offset_res,if_true,if_false,Bool.false_eq_true,hq1.out]) ((Fr.refl [c.R] w).jt [w.heap.size+1] hf) hi⟩
theorem reads_bound (c:Ctx) (m:Nat):Reads c 139 m (okAgg boundQ) (Px.bound c.size):=fun ts w h _=>bound_any c ts w h
set_option maxRecDepth 100000 in
set_option maxHeartbeats 1600000 in
theorem params_any (c:Ctx) (ts:List Tk) (w:World) (h:Inv c ts w) :
  Calls Tryz.prog 114 #[.pointer (some ⟨c.R,0,none⟩)] w (RP c w (okRow 9 1 strQ) (Px.params ts)):=by
 have hmf:=make_func
 have H:=hid h
 have HR0:=H.out.lt.1
 clear h
 go_enter Tryz.func114,Tryz.ntmps114
 go_wp2_with fail
 refine(opt_str c _ (ts.length+1) _ enters_name (reads_name c _) Shr.name [60] [62] (by decide) (by decide) ts _ (by exact H.out.f [] H.out) (by omega)).mono ?_
 rintro e w1 hp
 rcases hp.cases with ⟨x1,ts1,v1,hq1,hf,hi,rfl,hv⟩|⟨ts1,hq1,hf,hi,rfl⟩
 ·clear hp
  obtain⟨p1,n1,k1,rfl⟩:=row_shp hv
  have hV1:=row_own (b:=w.heap.size) hv (by first|omega|(simp;done)|(simp;omega)) (Fr.refl [] _) (by simp)
  obtain⟨hT,HI1,HF1,hz1⟩:=Inv.st0 [] (Fr.refl [c.R] w) hf hi
  try simp at hz1
  have HV1:=hid hV1
  have hl1:ts1.length≤ts.length:=(Shr.opt Shr.name _ _).ok hq1.out
  clear hT hf hi hV1 hv
  go_wp2_with fail
  go_ret
  exact RP.ok (by simp only[Px.params,bind,Px.Rd.bind,offset_res,if_true,if_false,Bool.false_eq_true,hq1.out] <;> rfl) (HF1.out.jf []) (HI1.out.f [] H.out) (row_own (b:=w.heap.size) HV1.out (by first|omega|(simp;done)|(simp;omega)) (X:=[]) frk (by simp))
 ·go_wp2_with fail
  exact⟨rfl,RP.bad (by simp only[Px.params,bind,Px.Rd.bind,offset_res,if_true,if_false,Bool.false_eq_true,hq1.out]) ((Fr.refl [c.R] w).jt [] hf) hi⟩
set_option maxRecDepth 100000 in
set_option maxHeartbeats 1600000 in
theorem bounds_any (c:Ctx) (ts:List Tk) (w:World) (h:Inv c ts w) :
  Calls Tryz.prog 118 #[.pointer (some ⟨c.R,0,none⟩)] w (RP c w (okRow 131 3 boundQ) (Px.bounds c.size ts)):=by
 have hmf:=make_func
 have H:=hid h
 have HR0:=H.out.lt.1
 clear h
 go_enter Tryz.func118,Tryz.ntmps118
 go_wp2_with fail
 refine(accept_any c ts [[119,104,101,114,101]] _ _ 1 (by exact H.out.f [] H.out) rfl (by exact Blk.new_at (by simp)) rfl (by decide)).mono ?_
 rintro e w1 hp
 rcases hp.accept with ⟨hq1,_,hf,hi,rfl⟩|⟨hq1,hf,hi,rfl⟩
 ·clear hp
  have hl1:=accept_pos hq1.out rfl
  obtain⟨hT,HI1,HF1,hz1⟩:=Inv.st0 [] (Fr.refl [c.R] w) hf hi
  try simp at hz1
  clear hT hf hi
  go_wp2_with fail
  refine(list_bound c _ (ts.tail.length+1) _ enters_bound (reads_bound c _) (shr_bound _) ts.tail _ (by exact HI1.out.f [] H.out) (by omega)).mono ?_
  rintro e w2 hp
  rcases hp.cases with ⟨x2,ts2,v2,hq2,hf,hi,rfl,hv⟩|⟨ts2,hq2,hf,hi,rfl⟩
  ·clear hp
   obtain⟨p2,n2,k2,rfl⟩:=row_shp hv
   have hV2:=row_own (b:=w.heap.size) hv (by first|omega|(simp;done)|(simp;omega)) (Fr.refl [] _) (by simp)
   obtain⟨hT,HI2,HF2,hz2⟩:=Inv.st0 [] HF1.out hf hi
   try simp at hz2
   have HV2:=hid hV2
   have hl2:ts2.length≤ts.tail.length:=(Shr.list (shr_bound _)).ok hq2.out
   clear hT hf hi hV2 hv
   go_wp2_with fail
   go_ret
   exact RP.ok (by simp only[Px.bounds,bind,Px.Rd.bind,offset_res,if_true,if_false,Bool.false_eq_true,hq1.out,hq2.out] <;> rfl) (HF2.out.jf []) (HI2.out.f [] H.out) (row_own (b:=w.heap.size) HV2.out (by first|omega|(simp;done)|(simp;omega)) (X:=[]) frk (by simp))
  ·go_wp2_with fail
   exact⟨rfl,RP.bad (by simp only[Px.bounds,bind,Px.Rd.bind,offset_res,if_true,if_false,Bool.false_eq_true,hq1.out,hq2.out]) (HF1.out.jt [] hf) hi⟩
 ·clear hp
  obtain⟨hT,HI1,HF1,hz1⟩:=Inv.st0 [] (Fr.refl [c.R] w) hf hi
  try simp at hz1
  clear hT hf hi
  go_wp2_with fail
  go_ret
  exact RP.ok (a:=[]) (v:=.slice none 0 0) (by simp only[Px.bounds,bind,Px.Rd.bind,offset_res,if_true,if_false,Bool.false_eq_true,hq1.out] <;> rfl) HF1.out HI1.out (okRow_nil _ _ _ _ _)
set_option maxRecDepth 100000 in
set_option maxHeartbeats 1600000 in
theorem variant_any (c:Ctx) (ts:List Tk) (w:World) (h:Inv c ts w) (n:Nat) (hty:Reads c 77 n (okAgg typeQ) (Px.typeF c.size n)) (hm:ts.length<n) :
  Calls Tryz.prog 116 #[.pointer (some ⟨c.R,0,none⟩)] w (RP c w (okAgg varQ) (Px.variant c.size n ts)):=by
 have HTY:Hid (Reads c 77 n (okAgg typeQ) (Px.typeF c.size n)):=hid hty
 clear hty
 have hmf:=make_func
 have H:=hid h
 have HR0:=H.out.lt.1
 clear h
 go_enter Tryz.func116,Tryz.ntmps116
 go_wp2_with fail
 refine(offset_any c ts _ (by exact H.out.f [] H.out)).mono ?_
 rintro e w' ⟨rfl,rfl⟩
 go_wp2_with fail
 refine(name_any c ts _ (by exact H.out.f [w.heap.size+1] H.out)).mono ?_
 rintro e w1 hp
 rcases hp.cases with ⟨x1,ts1,v1,hq1,hf,hi,rfl,hv⟩|⟨ts1,hq1,hf,hi,rfl⟩
 ·clear hp
  obtain rfl:=hv
  have hT:Fr [c.R,w.heap.size+1] w w1:=Fr.trans frk hf.wide
  have HD1:Hid (Blk w1 (w.heap.size+1) 47 #[.string ⟨#[]⟩,.slice none 0 0,.int .i64 (offOf c.size ts)]):=hid ((Blk.new_at (by simp)).k hf)
  have HB1:Hid (Blk w1 (w.heap.size) 47 #[.string ⟨#[]⟩,.slice none 0 0,.int .i64 0]):=hid (((Blk.new w _ _).alloc _).k hf)
  have HI1:=hid hi
  have HF1:=hid ((Fr.refl [c.R] w).j hT)
  have hz1:=hf.size;try simp at hz1
  have hl1:ts1.length<ts.length:=Strict.name _ _ _ hq1.out
  clear hT hf hi
  obtain⟨d0,f0⟩:=HD1.out.df 0 (v:=.string ⟨#[]⟩) rfl
  go_wp2_with fail
  clear d0 f0
  refine(opt_ty c _ n _ enters_type HTY.out (shr_typeF _ _) [40] [41] (by decide) (by decide) ts1 _ (by exact HI1.out.f [w.heap.size+1] H.out) (by omega)).mono ?_
  rintro e w2 hp
  rcases hp.cases with ⟨x2,ts2,v2,hq2,hf,hi,rfl,hv⟩|⟨ts2,hq2,hf,hi,rfl⟩
  ·clear hp
   obtain⟨p2,n2,k2,rfl⟩:=row_shp hv
   have hV2:=row_own (b:=w.heap.size+2) hv (by first|omega|(simp;done)|(simp;omega)) (Fr.refl [] _) (by simp)
   obtain⟨hT,HB2,HI2,HF2,hz2⟩:=Inv.st [w.heap.size+1] HB1.out HF1.out hf hi
   have HD2:Hid (Blk w2 (w.heap.size+1) 47 #[.string ⟨x1.toArray⟩,.slice none 0 0,.int .i64 (offOf c.size ts)]):=hid ((HD1.out.set 0 (.string ⟨x1.toArray⟩)).k hf)
   try simp at hz2
   have HV2:=hid hV2
   have hl2:ts2.length≤ts1.length:=(Shr.opt (shr_typeF _ _) _ _).ok hq2.out
   clear hT hf hi hV2 hv
   obtain⟨d0,d1,d2⟩:=HD2.out.c3
   have f1:=HD2.out.frozen 1
   obtain⟨b0,b1,b2,g0,g1,g2⟩:=HB2.out.cf3
   go_wp2_with fail
   refine bodyPost_ret (v:=.agg #[.string ⟨x1.toArray⟩,.slice p2 n2 k2,.int .i64 (offOf c.size ts)]) (by simp[results,Tryz.results116,go_sem,d0,d1,d2,f1,b0,b1,b2,g0,g1,g2]) rfl ?_
   clear d0 d1 d2 f1 b0 b1 b2 g0 g1 g2
   exact RP.ok (by simp only[Px.variant,bind,Px.Rd.bind,offset_res,if_true,if_false,Bool.false_eq_true,hq1.out,hq2.out] <;> rfl) (HF2.out.jf [w.heap.size+1,w.heap.size]) (HI2.out.f [w.heap.size+1,w.heap.size] H.out) ⟨_,rfl,rep_str.2 ⟨_,rfl,rep_sl.2 ⟨_,_,rfl,(row_own (b:=w.heap.size) HV2.out (by first|omega|(simp;done)|(simp;omega)) (X:=[w.heap.size+1,w.heap.size]) frk (by simp)),rep_int.2 ⟨_,rfl,rep_nil.2 rfl⟩⟩⟩⟩
  ·go_wp2_with fail
   exact⟨rfl,RP.bad (by simp only[Px.variant,bind,Px.Rd.bind,offset_res,if_true,if_false,Bool.false_eq_true,hq1.out,hq2.out]) (HF1.out.jt [w.heap.size+1] hf) hi⟩
 ·go_wp2_with fail
  exact⟨rfl,RP.bad (by simp only[Px.variant,bind,Px.Rd.bind,offset_res,if_true,if_false,Bool.false_eq_true,hq1.out]) ((Fr.refl [c.R] w).jt [w.heap.size+1] hf) hi⟩
set_option maxRecDepth 100000 in
set_option maxHeartbeats 1600000 in
theorem dropAction_any (c:Ctx) (ts:List Tk) (w:World) (h:Inv c ts w) :
  Calls Tryz.prog 117 #[.pointer (some ⟨c.R,0,none⟩)] w (RP c w (okInt) (Px.dropAction ts)):=by
 have H:=hid h
 have HR0:=H.out.lt.1
 clear h
 go_enter Tryz.func117,Tryz.ntmps117
 go_wp2_with fail
 refine(accept_any c ts [[112,97,110,105,99]] _ _ 1 (by exact H.out.f [] H.out) rfl (by exact Blk.new_at (by simp)) rfl (by decide)).mono ?_
 rintro e w1 hp
 rcases hp.accept with ⟨hq1,_,hf,hi,rfl⟩|⟨hq1,hf,hi,rfl⟩
 ·clear hp
  have hl1:=accept_pos hq1.out rfl
  obtain⟨hT,HI1,HF1,hz1⟩:=Inv.st0 [] (Fr.refl [c.R] w) hf hi
  try simp at hz1
  clear hT hf hi
  go_wp2_with fail
  go_ret
  exact RP.ok (a:=-1) (v:=.int .i64 (-1)) (by simp only[Px.dropAction,bind,Px.Rd.bind,offset_res,if_true,if_false,Bool.false_eq_true,hq1.out] <;> rfl) HF1.out HI1.out rfl
 ·clear hp
  obtain⟨hT,HI1,HF1,hz1⟩:=Inv.st0 [] (Fr.refl [c.R] w) hf hi
  try simp at hz1
  clear hT hf hi
  go_wp2_with fail
  refine(number_any c ts _ (by exact HI1.out.f [] H.out)).mono ?_
  rintro e w2 hp
  rcases hp.cases with ⟨x2,ts2,v2,hq2,hf,hi,rfl,hv⟩|⟨ts2,hq2,hf,hi,rfl⟩
  ·clear hp
   obtain rfl:=hv
   obtain⟨hT,HI2,HF2,hz2⟩:=Inv.st0 [] HF1.out hf hi
   try simp at hz2
   have hl2:ts2.length≤ts.length:=(Shr.number).ok hq2.out
   clear hT hf hi
   go_wp2_with fail
   go_ret
   exact RP.ok (by simp only[Px.dropAction,bind,Px.Rd.bind,offset_res,if_true,if_false,Bool.false_eq_true,hq1.out,hq2.out] <;> rfl) (HF2.out.jf []) (HI2.out.f [] H.out) rfl
  ·go_wp2_with fail
   exact⟨rfl,RP.bad (by simp only[Px.dropAction,bind,Px.Rd.bind,offset_res,if_true,if_false,Bool.false_eq_true,hq1.out,hq2.out]) (HF1.out.jt [] hf) hi⟩
set_option maxRecDepth 100000 in
set_option maxHeartbeats 1600000 in
theorem arg_any (c:Ctx) (ts:List Tk) (w:World) (h:Inv c ts w) (n:Nat) (hty:Reads c 77 n (okAgg typeQ) (Px.typeF c.size n)) (hm:ts.length<n) :
  Calls Tryz.prog 137 #[.pointer (some ⟨c.R,0,none⟩)] w (RP c w (okAgg argQ) (Px.arg c.size n ts)):=by
 have HTY:Hid (Reads c 77 n (okAgg typeQ) (Px.typeF c.size n)):=hid hty
 clear hty
 have hmf:=make_func
 have H:=hid h
 have HR0:=H.out.lt.1
 clear h
 go_enter Tryz.func137,Tryz.ntmps137
 go_wp2_with fail
 refine(offset_any c ts _ (by exact H.out.f [] H.out)).mono ?_
 rintro e w' ⟨rfl,rfl⟩
 go_wp2_with fail
 refine(name_any c ts _ (by exact H.out.f [w.heap.size+1] H.out)).mono ?_
 rintro e w1 hp
 rcases hp.cases with ⟨x1,ts1,v1,hq1,hf,hi,rfl,hv⟩|⟨ts1,hq1,hf,hi,rfl⟩
 ·clear hp
  obtain rfl:=hv
  have hT:Fr [c.R,w.heap.size+1] w w1:=Fr.trans frk hf.wide
  have HD1:Hid (Blk w1 (w.heap.size+1) 155 #[.string ⟨#[]⟩,.string ⟨#[]⟩,.slice none 0 0,.int .i64 0,.int .i64 0,.int .i64 (offOf c.size ts)]):=hid ((Blk.new_at (by simp)).k hf)
  have HB1:Hid (Blk w1 (w.heap.size) 155 #[.string ⟨#[]⟩,.string ⟨#[]⟩,.slice none 0 0,.int .i64 0,.int .i64 0,.int .i64 0]):=hid (((Blk.new w _ _).alloc _).k hf)
  have HI1:=hid hi
  have HF1:=hid ((Fr.refl [c.R] w).j hT)
  have hz1:=hf.size;try simp at hz1
  have hl1:ts1.length<ts.length:=Strict.name _ _ _ hq1.out
  clear hT hf hi
  obtain⟨d0,f0⟩:=HD1.out.df 0 (v:=.string ⟨#[]⟩) rfl
  go_wp2_with fail
  clear d0 f0
  refine(expect_any c ts1 [[58]] _ _ 1 (by exact HI1.out.f [w.heap.size+1] H.out) rfl (by exact Blk.new_at (by simp)) rfl (by decide)).mono ?_
  rintro e w2 hp
  rcases hp.cases with ⟨x2,ts2,v2,hq2,hf,hi,rfl,hv⟩|⟨ts2,hq2,hf,hi,rfl⟩
  ·clear hp
   obtain rfl:=hv
   obtain⟨hT,HB2,HI2,HF2,hz2⟩:=Inv.st [w.heap.size+1] HB1.out HF1.out hf hi
   have HD2:Hid (Blk w2 (w.heap.size+1) 155 #[.string ⟨x1.toArray⟩,.string ⟨#[]⟩,.slice none 0 0,.int .i64 0,.int .i64 0,.int .i64 (offOf c.size ts)]):=hid (((HD1.out.set 0 (.string ⟨x1.toArray⟩)).alloc _).k hf)
   try simp at hz2
   have hl2:ts2.length≤ts1.length:=(Shr.expect _).ok hq2.out
   clear hT hf hi
   go_wp2_with fail
   refine(HTY.out ts2 _ (by exact HI2.out.f [w.heap.size+1] H.out) (by omega)).mono ?_
   rintro e w3 hp
   rcases hp.cases with ⟨x3,ts3,v3,hq3,hf,hi,rfl,hv⟩|⟨ts3,hq3,hf,hi,rfl⟩
   ·clear hp
    obtain⟨cs,rfl,hrep⟩:=hv
    obtain⟨s3_0,p3_1,n3_1,c3_1,i3_2,rfl⟩:=hrep.c_typeQ
    have hV3:Rep w3 (fun k=>w.heap.size+2≤k) _ _:=hrep.mono (fun k hk _=>⟨by (try simp at hk);omega,rfl⟩)
    obtain⟨hT,HB3,HI3,HF3,hz3⟩:=Inv.st [w.heap.size+1] HB2.out HF2.out hf hi
    have HD3:=hid (HD2.out.k hf)
    try simp at hz3
    have HV3:=hid hV3
    have hl3:ts3.length≤ts2.length:=(shr_typeF _ _).ok hq3.out
    clear hT hf hi hV3 hrep
    obtain⟨d0,d1,d2,d3,d4,d5⟩:=HD3.out.c6
    have f1:=HD3.out.frozen 1
    have f2:=HD3.out.frozen 2
    have f3:=HD3.out.frozen 3
    obtain⟨b0,b1,b2,b3,b4,b5,g0,g1,g2,g3,g4,g5⟩:=HB3.out.cf6
    go_wp2_with fail
    refine bodyPost_ret (v:=.agg #[.string ⟨x1.toArray⟩,.string s3_0,.slice p3_1 n3_1 c3_1,.int .i64 i3_2,.int .i64 0,.int .i64 (offOf c.size ts)]) (by simp[results,Tryz.results137,go_sem,d0,d1,d2,d3,d4,d5,f1,f2,f3,b0,b1,b2,b3,b4,b5,g0,g1,g2,g3,g4,g5]) rfl ?_
    clear d0 d1 d2 d3 d4 d5 f1 f2 f3 b0 b1 b2 b3 b4 b5 g0 g1 g2 g3 g4 g5
    exact RP.ok (by simp only[Px.arg,bind,Px.Rd.bind,offset_res,if_true,if_false,Bool.false_eq_true,hq1.out,hq2.out,hq3.out] <;> rfl) (HF3.out.jf [w.heap.size+1,w.heap.size]) (HI3.out.f [w.heap.size+1,w.heap.size] H.out) ⟨_,rfl,rep_str.2 ⟨_,rfl,Rep.app (cs:=[.string s3_0,.slice p3_1 n3_1 c3_1,.int .i64 i3_2]) (rep_own (b:=w.heap.size) HV3.out (X:=[w.heap.size+1,w.heap.size]) frk (by first|omega|(simp;done)|(simp;omega)) (by first|omega|(simp;done)|(simp;omega))) (rep_int.2 ⟨_,rfl,rep_int.2 ⟨_,rfl,rep_nil.2 rfl⟩⟩)⟩⟩
   ·go_wp2_with fail
    exact⟨rfl,RP.bad (by simp only[Px.arg,bind,Px.Rd.bind,offset_res,if_true,if_false,Bool.false_eq_true,hq1.out,hq2.out,hq3.out]) (HF2.out.jt [w.heap.size+1] hf) hi⟩
  ·go_wp2_with fail
   exact⟨rfl,RP.bad (by simp only[Px.arg,bind,Px.Rd.bind,offset_res,if_true,if_false,Bool.false_eq_true,hq1.out,hq2.out]) (HF1.out.jt [w.heap.size+1] hf) hi⟩
 ·go_wp2_with fail
  exact⟨rfl,RP.bad (by simp only[Px.arg,bind,Px.Rd.bind,offset_res,if_true,if_false,Bool.false_eq_true,hq1.out]) ((Fr.refl [c.R] w).jt [w.heap.size+1] hf) hi⟩
theorem capture_rep {w:World} {N:Nat→Prop} {a:ArgD} {k o:Nat} {v0 v1 v2 v3 v4 v5:Value} (h:Rep w N (argQ a) [v0,v1,v2,v3,v4,v5]):Rep w N (argQ ⟨a.name,a.type,k,o⟩) [v0,v1,v2,v3,.int .i64 k,.int .i64 o]:=by
 unfold argQ at *
 rw[rep_str] at h
 obtain⟨cs,e,h⟩:=h
 obtain⟨p,q,e2,h1,h2⟩:=Rep.split h
 have hl:=h1.len
 rw[len_typeQ] at hl
 obtain⟨y1,y2,y3,rfl⟩:=cells_3 hl
 simp only[List.cons.injEq] at e
 obtain⟨rfl,rfl⟩:=e
 simp only[List.cons_append,List.nil_append,List.cons.injEq] at e2
 obtain⟨rfl,rfl,rfl,_⟩:=e2
 exact rep_str.2 ⟨_,rfl,Rep.app (cs:=[v1,v2,v3]) h1 (rep_int.2 ⟨_,rfl,rep_int.2 ⟨_,rfl,rep_nil.2 rfl⟩⟩)⟩
set_option maxRecDepth 100000 in
set_option maxHeartbeats 1600000 in
theorem captureKind_any (c:Ctx) (ts:List Tk) (w:World) (h:Inv c ts w) :
  Calls Tryz.prog 136 #[.pointer (some ⟨c.R,0,none⟩)] w (RP c w (okNat) (Px.captureKind ts)):=by
 have H:=hid h
 have HR0:=H.out.lt.1
 clear h
 go_enter Tryz.func136,Tryz.ntmps136
 go_wp2_with fail
 refine(expect_any c ts [[109,111,118,101],[38],[38,33]] _ _ 3 (by exact H.out.f [] H.out) rfl (by exact Blk.new_at (by simp)) rfl (by decide)).mono ?_
 rintro e w1 hp
 rcases hp.cases with ⟨x1,ts1,v1,hq1,hf,hi,rfl,hv⟩|⟨ts1,hq1,hf,hi,rfl⟩
 ·clear hp
  obtain rfl:=hv
  obtain⟨hT,HI1,HF1,hz1⟩:=Inv.st0 [] (Fr.refl [c.R] w) hf hi
  try simp at hz1
  have hl1:ts1.length≤ts.length:=(Shr.expect _).ok hq1.out
  clear hT hf hi
  by_cases e1:x1=[38]
  ·subst e1
   go_wp2_with fail
   go_ret
   exact RP.ok (a:=1) (v:=.int .i64 1) (by simp only[Px.captureKind,bind,Px.Rd.bind,offset_res,if_true,if_false,Bool.false_eq_true,hq1.out] <;> rfl) HF1.out HI1.out rfl
  ·have n1:(x1 == [38])=false:=by simpa using e1
   have N1:=hid e1
   by_cases e2:x1=[38,33]
   ·subst e2
    clear e1 n1
    go_wp2_with fail
    go_ret
    exact RP.ok (a:=2) (v:=.int .i64 2) (by simp only[Px.captureKind,bind,Px.Rd.bind,offset_res,if_true,if_false,Bool.false_eq_true,hq1.out] <;> rfl) HF1.out HI1.out rfl
   ·have n2:(x1 == [38,33])=false:=by simpa using e2
    have N2:=hid e2
    clear e1 e2
    go_wp2_with fail
    go_ret
    exact RP.ok (a:=0) (v:=.int .i64 0) (by simp only[Px.captureKind,bind,Px.Rd.bind,offset_res,if_true,if_false,Bool.false_eq_true,hq1.out,if_neg N1.out,if_neg N2.out,pure,Px.Rd.pure]) HF1.out HI1.out rfl
 ·go_wp2_with fail
  exact⟨rfl,RP.bad (by simp only[Px.captureKind,bind,Px.Rd.bind,offset_res,if_true,if_false,Bool.false_eq_true,hq1.out]) ((Fr.refl [c.R] w).jt [] hf) hi⟩
set_option maxRecDepth 100000 in
set_option maxHeartbeats 1600000 in
theorem capture_any (c:Ctx) (ts:List Tk) (w:World) (h:Inv c ts w) (n:Nat) (hty:Reads c 77 n (okAgg typeQ) (Px.typeF c.size n)) (hm:ts.length<n) :
  Calls Tryz.prog 109 #[.pointer (some ⟨c.R,0,none⟩)] w (RP c w (okAgg argQ) (Px.capture c.size n ts)):=by
 have HTY:Hid (Reads c 77 n (okAgg typeQ) (Px.typeF c.size n)):=hid hty
 clear hty
 have hmf:=make_func
 have H:=hid h
 have HR0:=H.out.lt.1
 clear h
 go_enter Tryz.func109,Tryz.ntmps109
 go_wp2_with fail
 refine(offset_any c ts _ (by exact H.out.f [] H.out)).mono ?_
 rintro e w' ⟨rfl,rfl⟩
 go_wp2_with fail
 refine(captureKind_any c ts _ (by exact H.out.f [] H.out)).mono ?_
 rintro e w1 hp
 rcases hp.cases with ⟨x1,ts1,v1,hq1,hf,hi,rfl,hv⟩|⟨ts1,hq1,hf,hi,rfl⟩
 ·clear hp
  obtain rfl:=hv
  have hT:Fr [c.R] w w1:=Fr.trans frk hf.wide
  have HB1:Hid (Blk w1 (w.heap.size) 155 #[.string ⟨#[]⟩,.string ⟨#[]⟩,.slice none 0 0,.int .i64 0,.int .i64 0,.int .i64 0]):=hid ((Blk.new w _ _).k hf)
  have HI1:=hid hi
  have HF1:=hid ((Fr.refl [c.R] w).j hT)
  have hz1:=hf.size;try simp at hz1
  have hl1:ts1.length≤ts.length:=(shr_captureKind).ok hq1.out
  clear hT hf hi
  go_wp2_with fail
  refine(arg_any c ts1 _ (by exact HI1.out.f [] H.out) n HTY.out (by omega)).mono ?_
  rintro e w2 hp
  rcases hp.cases with ⟨x2,ts2,v2,hq2,hf,hi,rfl,hv⟩|⟨ts2,hq2,hf,hi,rfl⟩
  ·clear hp
   obtain⟨cs,rfl,hrep⟩:=hv
   obtain⟨s2_0,s2_1,p2_2,n2_2,c2_2,i2_3,i2_4,i2_5,rfl⟩:=hrep.c_argQ
   have hV2:Rep w2 (fun k=>w.heap.size+1≤k) _ _:=hrep.mono (fun k hk _=>⟨by (try simp at hk);omega,rfl⟩)
   obtain⟨hT,HB2,HI2,HF2,hz2⟩:=Inv.st [] HB1.out HF1.out hf hi
   try simp at hz2
   have HV2:=hid hV2
   have hl2:ts2.length≤ts1.length:=(shr_arg _ _).ok hq2.out
   clear hT hf hi hV2 hrep
   skip
   have hlB:w.heap.size<w2.heap.size:=by omega
   obtain⟨b0,b1,b2,b3,b4,b5,g0,g1,g2,g3,g4,g5⟩:=HB2.out.cf6
   go_wp2_with fail
   refine bodyPost_ret (v:=.agg #[.string s2_0,.string s2_1,.slice p2_2 n2_2 c2_2,.int .i64 i2_3,.int .i64 x1,.int .i64 (offOf c.size ts)]) (by simp[results,Tryz.results109,go_sem,hlB,b0,b1,b2,b3,b4,b5,g0,g1,g2,g3,g4,g5]) rfl ?_
   clear hlB b0 b1 b2 b3 b4 b5 g0 g1 g2 g3 g4 g5
   exact RP.ok (by simp only[Px.capture,bind,Px.Rd.bind,offset_res,if_true,if_false,Bool.false_eq_true,hq1.out,hq2.out] <;> rfl) (HF2.out.jf [w.heap.size]) (HI2.out.f [w.heap.size] H.out) ⟨_,rfl,capture_rep (rep_own (b:=w.heap.size) HV2.out (X:=[w.heap.size]) frk (by first|omega|(simp;done)|(simp;omega)) (by first|omega|(simp;done)|(simp;omega)))⟩
  ·go_wp2_with fail
   exact⟨rfl,RP.bad (by simp only[Px.capture,bind,Px.Rd.bind,offset_res,if_true,if_false,Bool.false_eq_true,hq1.out,hq2.out]) (HF1.out.jt [] hf) hi⟩
 ·go_wp2_with fail
  exact⟨rfl,RP.bad (by simp only[Px.capture,bind,Px.Rd.bind,offset_res,if_true,if_false,Bool.false_eq_true,hq1.out]) ((Fr.refl [c.R] w).jt [] hf) hi⟩
set_option maxRecDepth 100000 in
set_option maxHeartbeats 1600000 in
theorem type_step (c:Ctx) (ts:List Tk) (w:World) (h:Inv c ts w) (n:Nat) (hty:Reads c 77 n (okAgg typeQ) (Px.typeF c.size n)) (hm:ts.length<n+1) :
  Calls Tryz.prog 77 #[.pointer (some ⟨c.R,0,none⟩)] w (RP c w (okAgg typeQ) (Px.typeF c.size (n+1) ts)):=by
 have HTY:Hid (Reads c 77 n (okAgg typeQ) (Px.typeF c.size n)):=hid hty
 clear hty
 have hmf:=make_func
 have H:=hid h
 have HR0:=H.out.lt.1
 clear h
 go_enter Tryz.func77,Tryz.ntmps77
 go_wp2_with fail
 refine(word_any c ts _ (by exact H.out.f [] H.out)).mono ?_
 rintro e w' ⟨rfl,rfl⟩
 go_wp2_with fail
 refine(offset_any c ts _ (by exact H.out.f [] H.out)).mono ?_
 rintro e w' ⟨rfl,rfl⟩
 go_wp2_with fail
 refine(accept_any c ts [[73,110,116],[65,114,101,110,97]] _ _ 2 (by exact H.out.f [w.heap.size+1] H.out) rfl (by exact Blk.new_at (by simp)) rfl (by decide)).mono ?_
 rintro e w1 hp
 rcases hp.accept with ⟨hq1,_,hf,hi,rfl⟩|⟨hq1,hf,hi,rfl⟩
 ·clear hp
  have hl1:=accept_pos hq1.out rfl
  have hT:Fr [c.R,w.heap.size+1] w w1:=Fr.trans frk hf.wide
  have HD1:Hid (Blk w1 (w.heap.size+1) 39 #[.string ⟨(Px.word ts).toArray⟩,.slice none 0 0,.int .i64 (offOf c.size ts)]):=hid ((Blk.alloc (Blk.new_at (by simp)) _).k hf)
  have HB1:Hid (Blk w1 (w.heap.size) 39 #[.string ⟨#[]⟩,.slice none 0 0,.int .i64 0]):=hid ((Blk.alloc (Blk.alloc (Blk.new w _ _) _) _).k hf)
  have HI1:=hid hi
  have HF1:=hid ((Fr.refl [c.R] w).j hT)
  have hz1:=hf.size;try simp at hz1
  clear hT hf hi
  have hlB:w.heap.size<w1.heap.size:=by omega
  have hlD:=HD1.out.lt
  obtain⟨d0,d1,d2⟩:=HD1.out.c3
  obtain⟨b0,b1,b2,g0,g1,g2⟩:=HB1.out.cf3
  go_wp2_with fail
  refine bodyPost_ret (v:=.agg #[.string ⟨(Px.word ts).toArray⟩,.slice none 0 0,.int .i64 (offOf c.size ts)]) (by simp[results,Tryz.results77,go_sem,hlB,hlD,d0,d1,d2,b0,b1,b2,g0,g1,g2]) rfl ?_
  clear hlB hlD d0 d1 d2 b0 b1 b2 g0 g1 g2
  exact RP.ok (by simp only[Px.typeF,bind,Px.Rd.bind,offset_res,if_true,if_false,Bool.false_eq_true,Px.wordR,hq1.out] <;> rfl) (HF1.out.jf [w.heap.size+1,w.heap.size]) (HI1.out.f [w.heap.size+1,w.heap.size] H.out) ⟨_,rfl,by rw[typeQ_mk];exact rep_str.2 ⟨_,rfl,rep_sl.2 ⟨_,_,rfl,RowV.nil _ _ _ _,rep_int.2 ⟨_,rfl,rep_nil.2 rfl⟩⟩⟩⟩
 ·clear hp
  have hT:Fr [c.R,w.heap.size+1] w w1:=Fr.trans frk hf.wide
  have HD1:Hid (Blk w1 (w.heap.size+1) 39 #[.string ⟨(Px.word ts).toArray⟩,.slice none 0 0,.int .i64 (offOf c.size ts)]):=hid ((Blk.alloc (Blk.new_at (by simp)) _).k hf)
  have HB1:Hid (Blk w1 (w.heap.size) 39 #[.string ⟨#[]⟩,.slice none 0 0,.int .i64 0]):=hid ((Blk.alloc (Blk.alloc (Blk.new w _ _) _) _).k hf)
  have HI1:=hid hi
  have HF1:=hid ((Fr.refl [c.R] w).j hT)
  have hz1:=hf.size;try simp at hz1
  clear hT hf hi
  have hlD:=HD1.out.lt
  go_wp2_with fail
  clear hlD
  refine(accept_any c ts [[66,111,120],[67,104,97,110]] _ _ 2 (by exact HI1.out.f [w.heap.size+1] H.out) rfl (by exact Blk.new_at (by simp)) rfl (by decide)).mono ?_
  rintro e w2 hp
  rcases hp.accept with ⟨hq2,_,hf,hi,rfl⟩|⟨hq2,hf,hi,rfl⟩
  ·clear hp
   have hl2:=accept_pos hq2.out rfl
   obtain⟨hT,HB2,HI2,HF2,hz2⟩:=Inv.st [w.heap.size+1] HB1.out HF1.out hf hi
   have HD2:Hid (Blk w2 (w.heap.size+1) 39 #[.string ⟨(Px.word ts).toArray⟩,.slice none 0 0,.int .i64 (offOf c.size ts)]):=hid ((Blk.alloc HD1.out _).k hf)
   try simp at hz2
   clear hT hf hi
   have hlD:=HD2.out.lt
   go_wp2_with fail
   clear hlD
   refine(expect_any c ts.tail [[60]] _ _ 1 (by exact HI2.out.f [w.heap.size+1] H.out) rfl (by exact Blk.new_at (by simp)) rfl (by decide)).mono ?_
   rintro e w3 hp
   rcases hp.cases with ⟨x3,ts3,v3,hq3,hf,hi,rfl,hv⟩|⟨ts3,hq3,hf,hi,rfl⟩
   ·clear hp
    obtain rfl:=hv
    obtain⟨hT,HB3,HI3,HF3,hz3⟩:=Inv.st [w.heap.size+1] HB2.out HF2.out hf hi
    have HD3:Hid (Blk w3 (w.heap.size+1) 39 #[.string ⟨(Px.word ts).toArray⟩,.slice none 0 0,.int .i64 (offOf c.size ts)]):=hid ((Blk.alloc HD2.out _).k hf)
    try simp at hz3
    have hl3:ts3.length≤ts.tail.length:=(Shr.expect _).ok hq3.out
    clear hT hf hi
    have hlD:=HD3.out.lt
    go_wp2_with fail
    clear hlD
    refine(HTY.out ts3 _ (by exact HI3.out.f [w.heap.size+1] H.out) (by omega)).mono ?_
    rintro e w4 hp
    rcases hp.cases with ⟨x4,ts4,v4,hq4,hf,hi,rfl,hv⟩|⟨ts4,hq4,hf,hi,rfl⟩
    ·clear hp
     obtain⟨cs,rfl,hrep⟩:=hv
     obtain⟨s4_0,p4_1,n4_1,c4_1,i4_2,rfl⟩:=hrep.c_typeQ
     have hV4:Rep w4 (fun k=>w.heap.size+2≤k) _ _:=hrep.mono (fun k hk _=>⟨by (try simp at hk);omega,rfl⟩)
     obtain⟨hT,HB4,HI4,HF4,hz4⟩:=Inv.st [w.heap.size+1] HB3.out HF3.out hf hi
     have HD4:=hid (HD3.out.k hf)
     try simp at hz4
     have HV4:=hid hV4
     have hl4:ts4.length≤ts3.length:=(shr_typeF _ _).ok hq4.out
     clear hT hf hi hV4 hrep
     have hlD:=HD4.out.lt
     obtain⟨d1,f1⟩:=HD4.out.df 1 (v:=.slice none 0 0) rfl
     go_wp2_with fail
     clear hlD d1 f1
     refine(expect_any c ts4 [[62]] _ _ 1 (by exact HI4.out.f [w.heap.size+1] H.out) rfl (by exact Blk.new_at (by simp)) rfl (by decide)).mono ?_
     rintro e w5 hp
     rcases hp.cases with ⟨x5,ts5,v5,hq5,hf,hi,rfl,hv⟩|⟨ts5,hq5,hf,hi,rfl⟩
     ·clear hp
      obtain rfl:=hv
      have hT:Fr [c.R,w.heap.size+1] w4 w5:=Fr.trans frk hf.wide
      have HD5:Hid (Blk w5 (w.heap.size+1) 39 #[.string ⟨(Px.word ts).toArray⟩,.slice (some ⟨w4.heap.size,0,none⟩) 1 1,.int .i64 (offOf c.size ts)]):=hid ((Blk.alloc (Blk.alloc (HD4.out.set 1 (.slice (some ⟨w4.heap.size,0,none⟩) 1 1)) _) _).k hf)
      have HB5:=hid (HB4.out.k hT)
      have hN:Blk w5 (w4.heap.size) 39 #[.string s4_0,.slice p4_1 n4_1 c4_1,.int .i64 i4_2]:=Blk.keep (by repeat' (first|with_reducible refine Blk.new_at ?_|with_reducible refine Blk.alloc ?_ _|with_reducible refine Blk.other ?_ ?_ _|(simp;done)|(simp;omega))) hf (by simp;omega)
      have hNr:=row_one (b:=w.heap.size+2) hN (by omega) rfl (rep_own HV4.out hT (by simp;omega))
      have HN4_5:=hid hNr
      clear hN hNr
      have HV4_5:=hid (rep_own HV4.out hT (by simp;omega))
      have HI5:=hid hi
      have HF5:=hid (HF4.out.j hT)
      have hz5:=hf.size;try simp at hz5
      have hl5:ts5.length≤ts4.length:=(Shr.expect _).ok hq5.out
      clear hT hf hi
      have hlB:w.heap.size<w5.heap.size:=by omega
      have hlD:=HD5.out.lt
      obtain⟨d0,d1,d2⟩:=HD5.out.c3
      obtain⟨b0,b1,b2,g0,g1,g2⟩:=HB5.out.cf3
      go_wp2_with fail
      refine bodyPost_ret (v:=.agg #[.string ⟨(Px.word ts).toArray⟩,.slice (some ⟨w4.heap.size,0,none⟩) 1 1,.int .i64 (offOf c.size ts)]) (by simp[results,Tryz.results77,go_sem,hlB,hlD,d0,d1,d2,b0,b1,b2,g0,g1,g2]) rfl ?_
      clear hlB hlD d0 d1 d2 b0 b1 b2 g0 g1 g2
      exact RP.ok (by simp only[Px.typeF,bind,Px.Rd.bind,offset_res,if_true,if_false,Bool.false_eq_true,Px.wordR,hq1.out,hq2.out,hq3.out,hq4.out,hq5.out] <;> rfl) (HF5.out.jf [w.heap.size+1,w.heap.size]) (HI5.out.f [w.heap.size+1,w.heap.size] H.out) ⟨_,rfl,by rw[typeQ_mk];exact rep_str.2 ⟨_,rfl,rep_sl.2 ⟨_,_,rfl,(row_own (b:=w.heap.size) HN4_5.out (by first|omega|(simp;done)|(simp;omega)) (X:=[w.heap.size+1,w.heap.size]) frk (by simp)),rep_int.2 ⟨_,rfl,rep_nil.2 rfl⟩⟩⟩⟩
     ·go_wp2_with fail
      exact⟨rfl,RP.bad (by simp only[Px.typeF,bind,Px.Rd.bind,offset_res,if_true,if_false,Bool.false_eq_true,Px.wordR,hq1.out,hq2.out,hq3.out,hq4.out,hq5.out]) (HF4.out.jt [w.heap.size+1] hf) hi⟩
    ·go_wp2_with fail
     exact⟨rfl,RP.bad (by simp only[Px.typeF,bind,Px.Rd.bind,offset_res,if_true,if_false,Bool.false_eq_true,Px.wordR,hq1.out,hq2.out,hq3.out,hq4.out]) (HF3.out.jt [w.heap.size+1] hf) hi⟩
   ·go_wp2_with fail
    exact⟨rfl,RP.bad (by simp only[Px.typeF,bind,Px.Rd.bind,offset_res,if_true,if_false,Bool.false_eq_true,Px.wordR,hq1.out,hq2.out,hq3.out]) (HF2.out.jt [w.heap.size+1] hf) hi⟩
  ·clear hp
   obtain⟨hT,HB2,HI2,HF2,hz2⟩:=Inv.st [w.heap.size+1] HB1.out HF1.out hf hi
   have HD2:Hid (Blk w2 (w.heap.size+1) 39 #[.string ⟨(Px.word ts).toArray⟩,.slice none 0 0,.int .i64 (offOf c.size ts)]):=hid ((Blk.alloc HD1.out _).k hf)
   try simp at hz2
   clear hT hf hi
   have hlD:=HD2.out.lt
   go_wp2_with fail
   clear hlD
   refine(accept_any c ts [[38],[38,33]] _ _ 2 (by exact HI2.out.f [w.heap.size+1] H.out) rfl (by exact Blk.new_at (by simp)) rfl (by decide)).mono ?_
   rintro e w6 hp
   rcases hp.accept with ⟨hq6,_,hf,hi,rfl⟩|⟨hq6,hf,hi,rfl⟩
   ·clear hp
    have hl6:=accept_pos hq6.out rfl
    obtain⟨hT,HB6,HI6,HF6,hz6⟩:=Inv.st [w.heap.size+1] HB2.out HF2.out hf hi
    have HD6:Hid (Blk w6 (w.heap.size+1) 39 #[.string ⟨(Px.word ts).toArray⟩,.slice none 0 0,.int .i64 (offOf c.size ts)]):=hid ((Blk.alloc HD2.out _).k hf)
    try simp at hz6
    clear hT hf hi
    have hlD:=HD6.out.lt
    go_wp2_with fail
    clear hlD
    refine(HTY.out ts.tail _ (by exact HI6.out.f [w.heap.size+1] H.out) (by omega)).mono ?_
    rintro e w7 hp
    rcases hp.cases with ⟨x7,ts7,v7,hq7,hf,hi,rfl,hv⟩|⟨ts7,hq7,hf,hi,rfl⟩
    ·clear hp
     obtain⟨cs,rfl,hrep⟩:=hv
     obtain⟨s7_0,p7_1,n7_1,c7_1,i7_2,rfl⟩:=hrep.c_typeQ
     have hV7:Rep w7 (fun k=>w.heap.size+2≤k) _ _:=hrep.mono (fun k hk _=>⟨by (try simp at hk);omega,rfl⟩)
     obtain⟨hT,HB7,HI7,HF7,hz7⟩:=Inv.st [w.heap.size+1] HB6.out HF6.out hf hi
     have HD7:=hid (HD6.out.k hf)
     try simp at hz7
     have HV7:=hid hV7
     have hl7:ts7.length≤ts.tail.length:=(shr_typeF _ _).ok hq7.out
     clear hT hf hi hV7 hrep
     have hlB:w.heap.size<w7.heap.size:=by omega
     have hlD:=HD7.out.lt
     obtain⟨d0,d1,d2⟩:=HD7.out.c3
     have f1:=HD7.out.frozen 1
     obtain⟨b0,b1,b2,g0,g1,g2⟩:=HB7.out.cf3
     go_wp2_with fail
     refine bodyPost_ret (v:=.agg #[.string ⟨(Px.word ts).toArray⟩,.slice (some ⟨w7.heap.size,0,none⟩) 1 1,.int .i64 (offOf c.size ts)]) (by simp[results,Tryz.results77,go_sem,hlB,hlD,d0,d1,d2,f1,b0,b1,b2,g0,g1,g2]) rfl ?_
     clear hlB hlD d0 d1 d2 f1 b0 b1 b2 g0 g1 g2
     exact RP.ok (by simp only[Px.typeF,bind,Px.Rd.bind,offset_res,if_true,if_false,Bool.false_eq_true,Px.wordR,hq1.out,hq2.out,hq6.out,hq7.out] <;> rfl) (HF7.out.jf [w.heap.size+1,w.heap.size]) (HI7.out.f [w.heap.size+1,w.heap.size] H.out) ⟨_,rfl,by rw[typeQ_mk];exact rep_str.2 ⟨_,rfl,rep_sl.2 ⟨_,_,rfl,(row_one (b:=w.heap.size) (w:=_) (g:=w7.heap.size) (xs:=[.string s7_0,.slice p7_1 n7_1 c7_1,.int .i64 i7_2]) (by repeat' (first|with_reducible refine Blk.new_at ?_|with_reducible refine Blk.alloc ?_ _|with_reducible refine Blk.other ?_ ?_ _|(simp;done)|(simp;omega))) (by omega) rfl (rep_own HV7.out (X:=[w.heap.size+1,w.heap.size]) frk (by first|omega|(simp;done)|(simp;omega)) (by first|omega|(simp;done)|(simp;omega)))),rep_int.2 ⟨_,rfl,rep_nil.2 rfl⟩⟩⟩⟩
    ·go_wp2_with fail
     exact⟨rfl,RP.bad (by simp only[Px.typeF,bind,Px.Rd.bind,offset_res,if_true,if_false,Bool.false_eq_true,Px.wordR,hq1.out,hq2.out,hq6.out,hq7.out]) (HF6.out.jt [w.heap.size+1] hf) hi⟩
   ·clear hp
    obtain⟨hT,HB6,HI6,HF6,hz6⟩:=Inv.st [w.heap.size+1] HB2.out HF2.out hf hi
    have HD6:Hid (Blk w6 (w.heap.size+1) 39 #[.string ⟨(Px.word ts).toArray⟩,.slice none 0 0,.int .i64 (offOf c.size ts)]):=hid ((Blk.alloc HD2.out _).k hf)
    try simp at hz6
    clear hT hf hi
    have hlD:=HD6.out.lt
    go_wp2_with fail
    clear hlD
    refine(name_any c ts _ (by exact HI6.out.f [w.heap.size+1] H.out)).mono ?_
    rintro e w8 hp
    rcases hp.cases with ⟨x8,ts8,v8,hq8,hf,hi,rfl,hv⟩|⟨ts8,hq8,hf,hi,rfl⟩
    ·clear hp
     obtain rfl:=hv
     obtain⟨hT,HB8,HI8,HF8,hz8⟩:=Inv.st [w.heap.size+1] HB6.out HF6.out hf hi
     have HD8:=hid (HD6.out.k hf)
     try simp at hz8
     have hl8:ts8.length<ts.length:=Strict.name _ _ _ hq8.out
     clear hT hf hi
     have hlD:=HD8.out.lt
     obtain⟨d0,f0⟩:=HD8.out.df 0 (v:=.string ⟨(Px.word ts).toArray⟩) rfl
     go_wp2_with fail
     clear hlD d0 f0
     refine(opt_ty c _ n _ enters_type HTY.out (shr_typeF _ _) [60] [62] (by decide) (by decide) ts8 _ (by exact HI8.out.f [w.heap.size+1] H.out) (by omega)).mono ?_
     rintro e w9 hp
     rcases hp.cases with ⟨x9,ts9,v9,hq9,hf,hi,rfl,hv⟩|⟨ts9,hq9,hf,hi,rfl⟩
     ·clear hp
      obtain⟨p9,n9,k9,rfl⟩:=row_shp hv
      have hV9:=row_own (b:=w.heap.size+2) hv (by first|omega|(simp;done)|(simp;omega)) (Fr.refl [] _) (by simp)
      obtain⟨hT,HB9,HI9,HF9,hz9⟩:=Inv.st [w.heap.size+1] HB8.out HF8.out hf hi
      have HD9:Hid (Blk w9 (w.heap.size+1) 39 #[.string ⟨x8.toArray⟩,.slice none 0 0,.int .i64 (offOf c.size ts)]):=hid ((HD8.out.set 0 (.string ⟨x8.toArray⟩)).k hf)
      try simp at hz9
      have HV9:=hid hV9
      have hl9:ts9.length≤ts8.length:=(Shr.opt (shr_typeF _ _) _ _).ok hq9.out
      clear hT hf hi hV9 hv
      have hlB:w.heap.size<w9.heap.size:=by omega
      have hlD:=HD9.out.lt
      obtain⟨d0,d1,d2⟩:=HD9.out.c3
      have f1:=HD9.out.frozen 1
      obtain⟨b0,b1,b2,g0,g1,g2⟩:=HB9.out.cf3
      go_wp2_with fail
      refine bodyPost_ret (v:=.agg #[.string ⟨x8.toArray⟩,.slice p9 n9 k9,.int .i64 (offOf c.size ts)]) (by simp[results,Tryz.results77,go_sem,hlB,hlD,d0,d1,d2,f1,b0,b1,b2,g0,g1,g2]) rfl ?_
      clear hlB hlD d0 d1 d2 f1 b0 b1 b2 g0 g1 g2
      exact RP.ok (by simp only[Px.typeF,bind,Px.Rd.bind,offset_res,if_true,if_false,Bool.false_eq_true,Px.wordR,hq1.out,hq2.out,hq6.out,hq8.out,hq9.out] <;> rfl) (HF9.out.jf [w.heap.size+1,w.heap.size]) (HI9.out.f [w.heap.size+1,w.heap.size] H.out) ⟨_,rfl,by rw[typeQ_mk];exact rep_str.2 ⟨_,rfl,rep_sl.2 ⟨_,_,rfl,(row_own (b:=w.heap.size) HV9.out (by first|omega|(simp;done)|(simp;omega)) (X:=[w.heap.size+1,w.heap.size]) frk (by simp)),rep_int.2 ⟨_,rfl,rep_nil.2 rfl⟩⟩⟩⟩
     ·go_wp2_with fail
      exact⟨rfl,RP.bad (by simp only[Px.typeF,bind,Px.Rd.bind,offset_res,if_true,if_false,Bool.false_eq_true,Px.wordR,hq1.out,hq2.out,hq6.out,hq8.out,hq9.out]) (HF8.out.jt [w.heap.size+1] hf) hi⟩
    ·go_wp2_with fail
     exact⟨rfl,RP.bad (by simp only[Px.typeF,bind,Px.Rd.bind,offset_res,if_true,if_false,Bool.false_eq_true,Px.wordR,hq1.out,hq2.out,hq6.out,hq8.out]) (HF6.out.jt [w.heap.size+1] hf) hi⟩
theorem type_any (c:Ctx):∀ n,Reads c 77 n (okAgg typeQ) (Px.typeF c.size n)
 | 0=>fun ts w h hm=>absurd hm (by omega)
 | n+1=>fun ts w h hm=>type_step c ts w h n (type_any c n) hm
end Go.Proofs.YtghohohagbbajaaGreatDoor
