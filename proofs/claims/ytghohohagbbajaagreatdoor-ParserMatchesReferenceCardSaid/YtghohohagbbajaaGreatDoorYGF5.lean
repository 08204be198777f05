/- part of the proof -/
import Derived.Test.YtghohohagbbajaaGreatDoorYO
import Derived.Test.YtghohohagbbajaaGreatDoorYGB
set_option linter.unusedVariables false
set_option linter.unusedSimpArgs false
set_option linter.unusedSectionVars false
namespace Go.Proofs.YtghohohagbbajaaGreatDoor
open Go.RowKit Go.Lib
open Lx (Tk)
open Px (Txt TyE VarD DataD TraitD BoundD ImplD ArgD ExprD StmtD ArmD FuncD ModD)
theorem reference_at (c:Ctx) (ts:List Tk) (w:World) (h:Inv c ts w) (u v x:Int) (a b d:Nat) (h1:u=a) (h2:v=b) (h3:x=d) :
  Calls Tryz.prog 132 #[.pointer (some ⟨c.R,0,none⟩),.int .i64 u,.int .i64 v,.int .i64 x] w (RP c w (okAgg exprQ) (Px.reference a b d ts)):=by
 subst h1;subst h2;subst h3;exact reference_any c a b d ts w h
def numB:List Tk→Bool
 | []=>false
 | t :: _=>t.kind == 2
theorem num_res (ts:List Tk):Px.numR ts=.ok (numB ts) ts:=by cases ts <;> rfl
theorem isNum_call (c:Ctx) (ts:List Tk) (w:World) (b:Bool) (h:Inv c ts w) (hb:numB ts=b):Calls Tryz.prog 87 #[.pointer (some ⟨c.R,0,none⟩),.int .i64 2] w fun e w'=>e=.returned (.bool b)∧w=w':=by
 subst hb
 cases ts with
 | nil=>exact isNext_nil c 2 w h
 | cons t r =>
  have:=isNext_cons c t r 2 w h
  rwa [show ((t.kind:Int) == 2)=numB (t :: r) by rw[Bool.eq_iff_iff];simp[numB];omega] at this
theorem number_le {c:Ctx} {ts ts':List Tk} {w:World} {x:Nat} (h:Inv c ts w) (hq:Px.number ts=.ok x ts'):x≤1000000000:=by
 cases ts with
 | nil=>cases hq
 | cons t r =>
  simp only[Px.number] at hq
  split at hq
  ·cases hq;exact h.nums t (by simp)
  ·cases hq
theorem expr_rep {w:World} {N:Nat→Prop} {e:ExprD} {o:Nat} {v0 v1 v2 v3 v4 v5 v6 v7:Value} (h:Rep w N (exprQ e) [v0,v1,v2,v3,v4,v5,v6,v7]):Rep w N (exprQ { e with off:=o }) [v0,v1,v2,v3,v4,v5,v6,.int .i64 o]:=by
 unfold exprQ strsQ typesS at *
 rw[rep_int] at h;obtain⟨_,e0,h⟩:=h
 rw[rep_str] at h;obtain⟨_,e1,h⟩:=h
 rw[rep_str] at h;obtain⟨_,e2,h⟩:=h
 rw[rep_str] at h;obtain⟨_,e3,h⟩:=h
 rw[rep_sl] at h;obtain⟨u4,_,e4,r4,h⟩:=h
 rw[rep_int] at h;obtain⟨_,e5,h⟩:=h
 rw[rep_sl] at h;obtain⟨u6,_,e6,r6,h⟩:=h
 simp only[List.cons.injEq] at e0
 obtain⟨rfl,rfl⟩:=e0
 simp only[List.cons.injEq] at e1
 obtain⟨rfl,rfl⟩:=e1
 simp only[List.cons.injEq] at e2
 obtain⟨rfl,rfl⟩:=e2
 simp only[List.cons.injEq] at e3
 obtain⟨rfl,rfl⟩:=e3
 simp only[List.cons.injEq] at e4
 obtain⟨rfl,rfl⟩:=e4
 simp only[List.cons.injEq] at e5
 obtain⟨rfl,rfl⟩:=e5
 simp only[List.cons.injEq] at e6
 obtain⟨rfl,rfl⟩:=e6
 exact rep_int.2 ⟨_,rfl,rep_str.2 ⟨_,rfl,rep_str.2 ⟨_,rfl,rep_str.2 ⟨_,rfl,rep_sl.2 ⟨_,_,rfl,r4,rep_int.2 ⟨_,rfl,rep_sl.2 ⟨_,_,rfl,r6,rep_int.2 ⟨_,rfl,rep_nil.2 rfl⟩⟩⟩⟩⟩⟩⟩⟩
set_option maxRecDepth 100000 in
set_option maxHeartbeats 1600000 in
theorem unplaced_num (c:Ctx) (ts:List Tk) (w:World) (h:Inv c ts w) (n:Nat) (hty:Reads c 77 n (okAgg typeQ) (Px.typeF c.size n)) (hm:ts.length<n) (hnb:numB ts=true) :
  Calls Tryz.prog 103 #[.pointer (some ⟨c.R,0,none⟩)] w (RP c w (okAgg exprQ) (Px.unplaced c.size n ts)):=by
 have HTY:Hid (Reads c 77 n (okAgg typeQ) (Px.typeF c.size n)):=hid hty
 clear hty
 have hmf:=make_func
 have HNB:=hid hnb
 clear hnb
 have H:=hid h
 have HR0:=H.out.lt.1
 clear h
 go_enter Tryz.func103,Tryz.ntmps103
 go_wp2_with fail
 refine(isNum_call c ts _ true (by exact H.out.f [] H.out) HNB.out).mono ?_
 rintro e w' ⟨rfl,rfl⟩
 go_wp2_with fail
 refine(number_any c ts _ (by exact H.out.f [] H.out)).mono ?_
 rintro e w1 hp
 rcases hp.cases with ⟨x1,ts1,v1,hq1,hf,hi,rfl,hv⟩|⟨ts1,hq1,hf,hi,rfl⟩
 ·clear hp
  obtain rfl:=hv
  have hT:Fr [c.R] w w1:=Fr.trans frk hf.wide
  have HB1:Hid (Blk w1 (w.heap.size) 49 #[.int .i64 0,.string ⟨#[]⟩,.string ⟨#[]⟩,.string ⟨#[]⟩,.slice none 0 0,.int .i64 0,.slice none 0 0,.int .i64 0]):=hid ((Blk.new w _ _).k hf)
  have HI1:=hid hi
  have HF1:=hid ((Fr.refl [c.R] w).j hT)
  have hz1:=hf.size;try simp at hz1
  have hl1:ts1.length≤ts.length:=(Shr.number).ok hq1.out
  clear hT hf hi
  have hlB:w.heap.size<w1.heap.size:=by omega
  obtain⟨b0,b1,b2,b3,b4,b5,b6,b7,g0,g1,g2,g3,g4,g5,g6,g7⟩:=HB1.out.cf8
  go_wp2_with fail
  refine bodyPost_ret (v:=.agg #[.int .i64 1,.string ⟨#[]⟩,.string ⟨#[]⟩,.string ⟨#[]⟩,.slice none 0 0,.int .i64 x1,.slice none 0 0,.int .i64 0]) (by simp[results,Tryz.results103,go_sem,hlB,b0,b1,b2,b3,b4,b5,b6,b7,g0,g1,g2,g3,g4,g5,g6,g7]) rfl ?_
  clear hlB b0 b1 b2 b3 b4 b5 b6 b7 g0 g1 g2 g3 g4 g5 g6 g7
  exact RP.ok (a:={ Px.expr0 with kind:=1,num:=x1 }) (by simp only[Px.unplaced,bind,Px.Rd.bind,offset_res,if_true,if_false,Bool.false_eq_true,num_res,HNB.out,hq1.out] <;> rfl) (HF1.out.jf [w.heap.size]) (HI1.out.f [w.heap.size] H.out) ⟨_,rfl,rep_int.2 ⟨_,rfl,rep_str.2 ⟨_,rfl,rep_str.2 ⟨_,rfl,rep_str.2 ⟨_,rfl,rep_sl.2 ⟨_,_,rfl,RowV.nil _ _ _ _,rep_int.2 ⟨_,rfl,rep_sl.2 ⟨_,_,rfl,RowV.nil _ _ _ _,rep_int.2 ⟨_,rfl,rep_nil.2 rfl⟩⟩⟩⟩⟩⟩⟩⟩⟩
 ·go_wp2_with fail
  exact⟨rfl,RP.bad (by simp only[Px.unplaced,bind,Px.Rd.bind,offset_res,if_true,if_false,Bool.false_eq_true,num_res,HNB.out,hq1.out]) ((Fr.refl [c.R] w).jt [] hf) hi⟩
set_option maxRecDepth 100000 in
set_option maxHeartbeats 8000000 in
theorem unplaced_not (c:Ctx) (ts:List Tk) (w:World) (h:Inv c ts w) (n:Nat) (hty:Reads c 77 n (okAgg typeQ) (Px.typeF c.size n)) (hm:ts.length<n) (hnb:numB ts=false) :
  Calls Tryz.prog 103 #[.pointer (some ⟨c.R,0,none⟩)] w (RP c w (okAgg exprQ) (Px.unplaced c.size n ts)):=by
 have HTY:Hid (Reads c 77 n (okAgg typeQ) (Px.typeF c.size n)):=hid hty
 clear hty
 have hmf:=make_func
 have HNB:=hid hnb
 clear hnb
 have H:=hid h
 have HR0:=H.out.lt.1
 clear h
 go_enter Tryz.func103,Tryz.ntmps103
 go_wp2_with fail
 refine(isNum_call c ts _ false (by exact H.out.f [] H.out) HNB.out).mono ?_
 rintro e w' ⟨rfl,rfl⟩
 go_wp2_with fail
 refine(accept_any c ts [[45]] _ _ 1 (by exact H.out.f [] H.out) rfl (by exact Blk.new_at (by simp)) rfl (by decide)).mono ?_
 rintro e w1 hp
 rcases hp.accept with ⟨hq1,_,hf,hi,rfl⟩|⟨hq1,hf,hi,rfl⟩
 ·clear hp
  have hl1:=accept_pos hq1.out rfl
  have hT:Fr [c.R] w w1:=Fr.trans frk hf.wide
  have HB1:Hid (Blk w1 (w.heap.size) 49 #[.int .i64 0,.string ⟨#[]⟩,.string ⟨#[]⟩,.string ⟨#[]⟩,.slice none 0 0,.int .i64 0,.slice none 0 0,.int .i64 0]):=hid ((Blk.alloc (Blk.new w _ _) _).k hf)
  have HI1:=hid hi
  have HF1:=hid ((Fr.refl [c.R] w).j hT)
  have hz1:=hf.size;try simp at hz1
  clear hT hf hi
  go_wp2_with fail
  refine(number_any c ts.tail _ (by exact HI1.out.f [] H.out)).mono ?_
  rintro e w2 hp
  rcases hp.cases with ⟨x2,ts2,v2,hq2,hf,hi,rfl,hv⟩|⟨ts2,hq2,hf,hi,rfl⟩
  ·clear hp
   obtain rfl:=hv
   obtain⟨hT,HB2,HI2,HF2,hz2⟩:=Inv.st [] HB1.out HF1.out hf hi
   try simp at hz2
   have hl2:ts2.length≤ts.tail.length:=(Shr.number).ok hq2.out
   clear hT hf hi
   have hx:=number_le HI1.out hq2.out
   have hlB:w.heap.size<w2.heap.size:=by omega
   obtain⟨b0,b1,b2,b3,b4,b5,b6,b7,g0,g1,g2,g3,g4,g5,g6,g7⟩:=HB2.out.cf8
   go_wp2_with fail
   refine bodyPost_ret (v:=.agg #[.int .i64 1,.string ⟨#[]⟩,.string ⟨#[]⟩,.string ⟨#[]⟩,.slice none 0 0,.int .i64 (-(x2:Int)),.slice none 0 0,.int .i64 0]) (by simp[results,Tryz.results103,go_sem,hlB,b0,b1,b2,b3,b4,b5,b6,b7,g0,g1,g2,g3,g4,g5,g6,g7]) rfl ?_
   clear hlB b0 b1 b2 b3 b4 b5 b6 b7 g0 g1 g2 g3 g4 g5 g6 g7
   exact RP.ok (a:={ Px.expr0 with kind:=1,num:=-(x2:Int) }) (by simp only[Px.unplaced,bind,Px.Rd.bind,offset_res,if_true,if_false,Bool.false_eq_true,num_res,HNB.out,hq1.out,hq2.out] <;> rfl) (HF2.out.jf [w.heap.size]) (HI2.out.f [w.heap.size] H.out) ⟨_,rfl,rep_int.2 ⟨_,rfl,rep_str.2 ⟨_,rfl,rep_str.2 ⟨_,rfl,rep_str.2 ⟨_,rfl,rep_sl.2 ⟨_,_,rfl,RowV.nil _ _ _ _,rep_int.2 ⟨_,rfl,rep_sl.2 ⟨_,_,rfl,RowV.nil _ _ _ _,rep_int.2 ⟨_,rfl,rep_nil.2 rfl⟩⟩⟩⟩⟩⟩⟩⟩⟩
  ·go_wp2_with fail
   exact⟨rfl,RP.bad (by simp only[Px.unplaced,bind,Px.Rd.bind,offset_res,if_true,if_false,Bool.false_eq_true,num_res,HNB.out,hq1.out,hq2.out]) (HF1.out.jt [] hf) hi⟩
 ·clear hp
  have hT:Fr [c.R] w w1:=Fr.trans frk hf.wide
  have HB1:Hid (Blk w1 (w.heap.size) 49 #[.int .i64 0,.string ⟨#[]⟩,.string ⟨#[]⟩,.string ⟨#[]⟩,.slice none 0 0,.int .i64 0,.slice none 0 0,.int .i64 0]):=hid ((Blk.alloc (Blk.new w _ _) _).k hf)
  have HI1:=hid hi
  have HF1:=hid ((Fr.refl [c.R] w).j hT)
  have hz1:=hf.size;try simp at hz1
  clear hT hf hi
  go_wp2_with fail
  refine(accept_any c ts [[110,101,119]] _ _ 1 (by exact HI1.out.f [] H.out) rfl (by exact Blk.new_at (by simp)) rfl (by decide)).mono ?_
  rintro e w3 hp
  rcases hp.accept with ⟨hq3,_,hf,hi,rfl⟩|⟨hq3,hf,hi,rfl⟩
  ·clear hp
   have hl3:=accept_pos hq3.out rfl
   obtain⟨hT,HB3,HI3,HF3,hz3⟩:=Inv.st [] HB1.out HF1.out hf hi
   try simp at hz3
   clear hT hf hi
   go_wp2_with fail
   refine(newValue_any c ts.tail _ (by exact HI3.out.f [] H.out)).mono ?_
   rintro e w4 hp
   rcases hp.cases with ⟨x4,ts4,v4,hq4,hf,hi,rfl,hv⟩|⟨ts4,hq4,hf,hi,rfl⟩
   ·clear hp
    obtain⟨cs,rfl,hrep⟩:=hv
    obtain⟨i4_0,s4_1,s4_2,s4_3,p4_4,n4_4,c4_4,i4_5,p4_6,n4_6,c4_6,i4_7,rfl⟩:=hrep.c_exprQ
    have hV4:Rep w4 (fun k=>w.heap.size+1≤k) _ _:=hrep.mono (fun k hk _=>⟨by (try simp at hk);omega,rfl⟩)
    obtain⟨hT,HB4,HI4,HF4,hz4⟩:=Inv.st [] HB3.out HF3.out hf hi
    try simp at hz4
    have HV4:=hid hV4
    have hl4:ts4.length≤ts.tail.length:=(shr_newValue).ok hq4.out
    clear hT hf hi hV4 hrep
    have hlB:w.heap.size<w4.heap.size:=by omega
    obtain⟨b0,b1,b2,b3,b4,b5,b6,b7,g0,g1,g2,g3,g4,g5,g6,g7⟩:=HB4.out.cf8
    go_wp2_with fail
    refine bodyPost_ret (v:=.agg #[.int .i64 i4_0,.string s4_1,.string s4_2,.string s4_3,.slice p4_4 n4_4 c4_4,.int .i64 i4_5,.slice p4_6 n4_6 c4_6,.int .i64 i4_7]) (by simp[results,Tryz.results103,go_sem,hlB,b0,b1,b2,b3,b4,b5,b6,b7,g0,g1,g2,g3,g4,g5,g6,g7]) rfl ?_
    clear hlB b0 b1 b2 b3 b4 b5 b6 b7 g0 g1 g2 g3 g4 g5 g6 g7
    exact RP.ok (by simp only[Px.unplaced,bind,Px.Rd.bind,offset_res,if_true,if_false,Bool.false_eq_true,num_res,HNB.out,hq1.out,hq3.out,hq4.out] <;> rfl) (HF4.out.jf [w.heap.size]) (HI4.out.f [w.heap.size] H.out) ⟨_,rfl,(rep_own (b:=w.heap.size) HV4.out (X:=[w.heap.size]) frk (by first|omega|(simp;done)|(simp;omega)) (by first|omega|(simp;done)|(simp;omega)))⟩
   ·go_wp2_with fail
    exact⟨rfl,RP.bad (by simp only[Px.unplaced,bind,Px.Rd.bind,offset_res,if_true,if_false,Bool.false_eq_true,num_res,HNB.out,hq1.out,hq3.out,hq4.out]) (HF3.out.jt [] hf) hi⟩
  ·clear hp
   obtain⟨hT,HB3,HI3,HF3,hz3⟩:=Inv.st [] HB1.out HF1.out hf hi
   try simp at hz3
   clear hT hf hi
   go_wp2_with fail
   refine(accept_any c ts [[98,111,120]] _ _ 1 (by exact HI3.out.f [] H.out) rfl (by exact Blk.new_at (by simp)) rfl (by decide)).mono ?_
   rintro e w5 hp
   rcases hp.accept with ⟨hq5,_,hf,hi,rfl⟩|⟨hq5,hf,hi,rfl⟩
   ·clear hp
    have hl5:=accept_pos hq5.out rfl
    obtain⟨hT,HB5,HI5,HF5,hz5⟩:=Inv.st [] HB3.out HF3.out hf hi
    try simp at hz5
    clear hT hf hi
    go_wp2_with fail
    refine(operation_at c ts.tail _ (by exact HI5.out.f [] H.out) _ _ 5 1 (by rfl) (by rfl) (by decide)).mono ?_
    rintro e w6 hp
    rcases hp.cases with ⟨x6,ts6,v6,hq6,hf,hi,rfl,hv⟩|⟨ts6,hq6,hf,hi,rfl⟩
    ·clear hp
     obtain⟨cs,rfl,hrep⟩:=hv
     obtain⟨i6_0,s6_1,s6_2,s6_3,p6_4,n6_4,c6_4,i6_5,p6_6,n6_6,c6_6,i6_7,rfl⟩:=hrep.c_exprQ
     have hV6:Rep w6 (fun k=>w.heap.size+1≤k) _ _:=hrep.mono (fun k hk _=>⟨by (try simp at hk);omega,rfl⟩)
     obtain⟨hT,HB6,HI6,HF6,hz6⟩:=Inv.st [] HB5.out HF5.out hf hi
     try simp at hz6
     have HV6:=hid hV6
     have hl6:ts6.length≤ts.tail.length:=(shr_operation _ _).ok hq6.out
     clear hT hf hi hV6 hrep
     have hlB:w.heap.size<w6.heap.size:=by omega
     obtain⟨b0,b1,b2,b3,b4,b5,b6,b7,g0,g1,g2,g3,g4,g5,g6,g7⟩:=HB6.out.cf8
     go_wp2_with fail
     refine bodyPost_ret (v:=.agg #[.int .i64 i6_0,.string s6_1,.string s6_2,.string s6_3,.slice p6_4 n6_4 c6_4,.int .i64 i6_5,.slice p6_6 n6_6 c6_6,.int .i64 i6_7]) (by simp[results,Tryz.results103,go_sem,hlB,b0,b1,b2,b3,b4,b5,b6,b7,g0,g1,g2,g3,g4,g5,g6,g7]) rfl ?_
     clear hlB b0 b1 b2 b3 b4 b5 b6 b7 g0 g1 g2 g3 g4 g5 g6 g7
     exact RP.ok (by simp only[Px.unplaced,bind,Px.Rd.bind,offset_res,if_true,if_false,Bool.false_eq_true,num_res,HNB.out,hq1.out,hq3.out,hq5.out,hq6.out] <;> rfl) (HF6.out.jf [w.heap.size]) (HI6.out.f [w.heap.size] H.out) ⟨_,rfl,(rep_own (b:=w.heap.size) HV6.out (X:=[w.heap.size]) frk (by first|omega|(simp;done)|(simp;omega)) (by first|omega|(simp;done)|(simp;omega)))⟩
    ·go_wp2_with fail
     exact⟨rfl,RP.bad (by simp only[Px.unplaced,bind,Px.Rd.bind,offset_res,if_true,if_false,Bool.false_eq_true,num_res,HNB.out,hq1.out,hq3.out,hq5.out,hq6.out]) (HF5.out.jt [] hf) hi⟩
   ·clear hp
    obtain⟨hT,HB5,HI5,HF5,hz5⟩:=Inv.st [] HB3.out HF3.out hf hi
    try simp at hz5
    clear hT hf hi
    go_wp2_with fail
    refine(accept_any c ts [[117,110,98,111,120]] _ _ 1 (by exact HI5.out.f [] H.out) rfl (by exact Blk.new_at (by simp)) rfl (by decide)).mono ?_
    rintro e w7 hp
    rcases hp.accept with ⟨hq7,_,hf,hi,rfl⟩|⟨hq7,hf,hi,rfl⟩
    ·clear hp
     have hl7:=accept_pos hq7.out rfl
     obtain⟨hT,HB7,HI7,HF7,hz7⟩:=Inv.st [] HB5.out HF5.out hf hi
     try simp at hz7
     clear hT hf hi
     go_wp2_with fail
     refine(operation_at c ts.tail _ (by exact HI7.out.f [] H.out) _ _ 6 1 (by rfl) (by rfl) (by decide)).mono ?_
     rintro e w8 hp
     rcases hp.cases with ⟨x8,ts8,v8,hq8,hf,hi,rfl,hv⟩|⟨ts8,hq8,hf,hi,rfl⟩
     ·clear hp
      obtain⟨cs,rfl,hrep⟩:=hv
      obtain⟨i8_0,s8_1,s8_2,s8_3,p8_4,n8_4,c8_4,i8_5,p8_6,n8_6,c8_6,i8_7,rfl⟩:=hrep.c_exprQ
      have hV8:Rep w8 (fun k=>w.heap.size+1≤k) _ _:=hrep.mono (fun k hk _=>⟨by (try simp at hk);omega,rfl⟩)
      obtain⟨hT,HB8,HI8,HF8,hz8⟩:=Inv.st [] HB7.out HF7.out hf hi
      try simp at hz8
      have HV8:=hid hV8
      have hl8:ts8.length≤ts.tail.length:=(shr_operation _ _).ok hq8.out
      clear hT hf hi hV8 hrep
      have hlB:w.heap.size<w8.heap.size:=by omega
      obtain⟨b0,b1,b2,b3,b4,b5,b6,b7,g0,g1,g2,g3,g4,g5,g6,g7⟩:=HB8.out.cf8
      go_wp2_with fail
      refine bodyPost_ret (v:=.agg #[.int .i64 i8_0,.string s8_1,.string s8_2,.string s8_3,.slice p8_4 n8_4 c8_4,.int .i64 i8_5,.slice p8_6 n8_6 c8_6,.int .i64 i8_7]) (by simp[results,Tryz.results103,go_sem,hlB,b0,b1,b2,b3,b4,b5,b6,b7,g0,g1,g2,g3,g4,g5,g6,g7]) rfl ?_
      clear hlB b0 b1 b2 b3 b4 b5 b6 b7 g0 g1 g2 g3 g4 g5 g6 g7
      exact RP.ok (by simp only[Px.unplaced,bind,Px.Rd.bind,offset_res,if_true,if_false,Bool.false_eq_true,num_res,HNB.out,hq1.out,hq3.out,hq5.out,hq7.out,hq8.out] <;> rfl) (HF8.out.jf [w.heap.size]) (HI8.out.f [w.heap.size] H.out) ⟨_,rfl,(rep_own (b:=w.heap.size) HV8.out (X:=[w.heap.size]) frk (by first|omega|(simp;done)|(simp;omega)) (by first|omega|(simp;done)|(simp;omega)))⟩
     ·go_wp2_with fail
      exact⟨rfl,RP.bad (by simp only[Px.unplaced,bind,Px.Rd.bind,offset_res,if_true,if_false,Bool.false_eq_true,num_res,HNB.out,hq1.out,hq3.out,hq5.out,hq7.out,hq8.out]) (HF7.out.jt [] hf) hi⟩
    ·clear hp
     obtain⟨hT,HB7,HI7,HF7,hz7⟩:=Inv.st [] HB5.out HF5.out hf hi
     try simp at hz7
     clear hT hf hi
     go_wp2_with fail
     refine(accept_any c ts [[38]] _ _ 1 (by exact HI7.out.f [] H.out) rfl (by exact Blk.new_at (by simp)) rfl (by decide)).mono ?_
     rintro e w9 hp
     rcases hp.accept with ⟨hq9,_,hf,hi,rfl⟩|⟨hq9,hf,hi,rfl⟩
     ·clear hp
      have hl9:=accept_pos hq9.out rfl
      obtain⟨hT,HB9,HI9,HF9,hz9⟩:=Inv.st [] HB7.out HF7.out hf hi
      try simp at hz9
      clear hT hf hi
      go_wp2_with fail
      refine(reference_at c ts.tail _ (by exact HI9.out.f [] H.out) _ _ _ 7 9 11 (by rfl) (by rfl) (by rfl)).mono ?_
      rintro e w10 hp
      rcases hp.cases with ⟨x10,ts10,v10,hq10,hf,hi,rfl,hv⟩|⟨ts10,hq10,hf,hi,rfl⟩
      ·clear hp
       obtain⟨cs,rfl,hrep⟩:=hv
       obtain⟨i10_0,s10_1,s10_2,s10_3,p10_4,n10_4,c10_4,i10_5,p10_6,n10_6,c10_6,i10_7,rfl⟩:=hrep.c_exprQ
       have hV10:Rep w10 (fun k=>w.heap.size+1≤k) _ _:=hrep.mono (fun k hk _=>⟨by (try simp at hk);omega,rfl⟩)
       obtain⟨hT,HB10,HI10,HF10,hz10⟩:=Inv.st [] HB9.out HF9.out hf hi
       try simp at hz10
       have HV10:=hid hV10
       have hl10:ts10.length≤ts.tail.length:=(shr_reference _ _ _).ok hq10.out
       clear hT hf hi hV10 hrep
       have hlB:w.heap.size<w10.heap.size:=by omega
       obtain⟨b0,b1,b2,b3,b4,b5,b6,b7,g0,g1,g2,g3,g4,g5,g6,g7⟩:=HB10.out.cf8
       go_wp2_with fail
       refine bodyPost_ret (v:=.agg #[.int .i64 i10_0,.string s10_1,.string s10_2,.string s10_3,.slice p10_4 n10_4 c10_4,.int .i64 i10_5,.slice p10_6 n10_6 c10_6,.int .i64 i10_7]) (by simp[results,Tryz.results103,go_sem,hlB,b0,b1,b2,b3,b4,b5,b6,b7,g0,g1,g2,g3,g4,g5,g6,g7]) rfl ?_
       clear hlB b0 b1 b2 b3 b4 b5 b6 b7 g0 g1 g2 g3 g4 g5 g6 g7
       exact RP.ok (by simp only[Px.unplaced,bind,Px.Rd.bind,offset_res,if_true,if_false,Bool.false_eq_true,num_res,HNB.out,hq1.out,hq3.out,hq5.out,hq7.out,hq9.out,hq10.out] <;> rfl) (HF10.out.jf [w.heap.size]) (HI10.out.f [w.heap.size] H.out) ⟨_,rfl,(rep_own (b:=w.heap.size) HV10.out (X:=[w.heap.size]) frk (by first|omega|(simp;done)|(simp;omega)) (by first|omega|(simp;done)|(simp;omega)))⟩
      ·go_wp2_with fail
       exact⟨rfl,RP.bad (by simp only[Px.unplaced,bind,Px.Rd.bind,offset_res,if_true,if_false,Bool.false_eq_true,num_res,HNB.out,hq1.out,hq3.out,hq5.out,hq7.out,hq9.out,hq10.out]) (HF9.out.jt [] hf) hi⟩
     ·clear hp
      obtain⟨hT,HB9,HI9,HF9,hz9⟩:=Inv.st [] HB7.out HF7.out hf hi
      try simp at hz9
      clear hT hf hi
      go_wp2_with fail
      refine(accept_any c ts [[38,33]] _ _ 1 (by exact HI9.out.f [] H.out) rfl (by exact Blk.new_at (by simp)) rfl (by decide)).mono ?_
      rintro e w11 hp
      rcases hp.accept with ⟨hq11,_,hf,hi,rfl⟩|⟨hq11,hf,hi,rfl⟩
      ·clear hp
       have hl11:=accept_pos hq11.out rfl
       obtain⟨hT,HB11,HI11,HF11,hz11⟩:=Inv.st [] HB9.out HF9.out hf hi
       try simp at hz11
       clear hT hf hi
       go_wp2_with fail
       refine(reference_at c ts.tail _ (by exact HI11.out.f [] H.out) _ _ _ 8 10 12 (by rfl) (by rfl) (by rfl)).mono ?_
       rintro e w12 hp
       rcases hp.cases with ⟨x12,ts12,v12,hq12,hf,hi,rfl,hv⟩|⟨ts12,hq12,hf,hi,rfl⟩
       ·clear hp
        obtain⟨cs,rfl,hrep⟩:=hv
        obtain⟨i12_0,s12_1,s12_2,s12_3,p12_4,n12_4,c12_4,i12_5,p12_6,n12_6,c12_6,i12_7,rfl⟩:=hrep.c_exprQ
        have hV12:Rep w12 (fun k=>w.heap.size+1≤k) _ _:=hrep.mono (fun k hk _=>⟨by (try simp at hk);omega,rfl⟩)
        obtain⟨hT,HB12,HI12,HF12,hz12⟩:=Inv.st [] HB11.out HF11.out hf hi
        try simp at hz12
        have HV12:=hid hV12
        have hl12:ts12.length≤ts.tail.length:=(shr_reference _ _ _).ok hq12.out
        clear hT hf hi hV12 hrep
        have hlB:w.heap.size<w12.heap.size:=by omega
        obtain⟨b0,b1,b2,b3,b4,b5,b6,b7,g0,g1,g2,g3,g4,g5,g6,g7⟩:=HB12.out.cf8
        go_wp2_with fail
        refine bodyPost_ret (v:=.agg #[.int .i64 i12_0,.string s12_1,.string s12_2,.string s12_3,.slice p12_4 n12_4 c12_4,.int .i64 i12_5,.slice p12_6 n12_6 c12_6,.int .i64 i12_7]) (by simp[results,Tryz.results103,go_sem,hlB,b0,b1,b2,b3,b4,b5,b6,b7,g0,g1,g2,g3,g4,g5,g6,g7]) rfl ?_
        clear hlB b0 b1 b2 b3 b4 b5 b6 b7 g0 g1 g2 g3 g4 g5 g6 g7
        exact RP.ok (by simp only[Px.unplaced,bind,Px.Rd.bind,offset_res,if_true,if_false,Bool.false_eq_true,num_res,HNB.out,hq1.out,hq3.out,hq5.out,hq7.out,hq9.out,hq11.out,hq12.out] <;> rfl) (HF12.out.jf [w.heap.size]) (HI12.out.f [w.heap.size] H.out) ⟨_,rfl,(rep_own (b:=w.heap.size) HV12.out (X:=[w.heap.size]) frk (by first|omega|(simp;done)|(simp;omega)) (by first|omega|(simp;done)|(simp;omega)))⟩
       ·go_wp2_with fail
        exact⟨rfl,RP.bad (by simp only[Px.unplaced,bind,Px.Rd.bind,offset_res,if_true,if_false,Bool.false_eq_true,num_res,HNB.out,hq1.out,hq3.out,hq5.out,hq7.out,hq9.out,hq11.out,hq12.out]) (HF11.out.jt [] hf) hi⟩
      ·clear hp
       obtain⟨hT,HB11,HI11,HF11,hz11⟩:=Inv.st [] HB9.out HF9.out hf hi
       try simp at hz11
       clear hT hf hi
       go_wp2_with fail
       refine(accept_any c ts [[42]] _ _ 1 (by exact HI11.out.f [] H.out) rfl (by exact Blk.new_at (by simp)) rfl (by decide)).mono ?_
       rintro e w13 hp
       rcases hp.accept with ⟨hq13,_,hf,hi,rfl⟩|⟨hq13,hf,hi,rfl⟩
       ·clear hp
        have hl13:=accept_pos hq13.out rfl
        obtain⟨hT,HB13,HI13,HF13,hz13⟩:=Inv.st [] HB11.out HF11.out hf hi
        try simp at hz13
        clear hT hf hi
        go_wp2_with fail
        refine(operation_at c ts.tail _ (by exact HI13.out.f [] H.out) _ _ 14 1 (by rfl) (by rfl) (by decide)).mono ?_
        rintro e w14 hp
        rcases hp.cases with ⟨x14,ts14,v14,hq14,hf,hi,rfl,hv⟩|⟨ts14,hq14,hf,hi,rfl⟩
        ·clear hp
         obtain⟨cs,rfl,hrep⟩:=hv
         obtain⟨i14_0,s14_1,s14_2,s14_3,p14_4,n14_4,c14_4,i14_5,p14_6,n14_6,c14_6,i14_7,rfl⟩:=hrep.c_exprQ
         have hV14:Rep w14 (fun k=>w.heap.size+1≤k) _ _:=hrep.mono (fun k hk _=>⟨by (try simp at hk);omega,rfl⟩)
         obtain⟨hT,HB14,HI14,HF14,hz14⟩:=Inv.st [] HB13.out HF13.out hf hi
         try simp at hz14
         have HV14:=hid hV14
         have hl14:ts14.length≤ts.tail.length:=(shr_operation _ _).ok hq14.out
         clear hT hf hi hV14 hrep
         have hlB:w.heap.size<w14.heap.size:=by omega
         obtain⟨b0,b1,b2,b3,b4,b5,b6,b7,g0,g1,g2,g3,g4,g5,g6,g7⟩:=HB14.out.cf8
         go_wp2_with fail
         refine bodyPost_ret (v:=.agg #[.int .i64 i14_0,.string s14_1,.string s14_2,.string s14_3,.slice p14_4 n14_4 c14_4,.int .i64 i14_5,.slice p14_6 n14_6 c14_6,.int .i64 i14_7]) (by simp[results,Tryz.results103,go_sem,hlB,b0,b1,b2,b3,b4,b5,b6,b7,g0,g1,g2,g3,g4,g5,g6,g7]) rfl ?_
         clear hlB b0 b1 b2 b3 b4 b5 b6 b7 g0 g1 g2 g3 g4 g5 g6 g7
         exact RP.ok (by simp only[Px.unplaced,bind,Px.Rd.bind,offset_res,if_true,if_false,Bool.false_eq_true,num_res,HNB.out,hq1.out,hq3.out,hq5.out,hq7.out,hq9.out,hq11.out,hq13.out,hq14.out] <;> rfl) (HF14.out.jf [w.heap.size]) (HI14.out.f [w.heap.size] H.out) ⟨_,rfl,(rep_own (b:=w.heap.size) HV14.out (X:=[w.heap.size]) frk (by first|omega|(simp;done)|(simp;omega)) (by first|omega|(simp;done)|(simp;omega)))⟩
        ·go_wp2_with fail
         exact⟨rfl,RP.bad (by simp only[Px.unplaced,bind,Px.Rd.bind,offset_res,if_true,if_false,Bool.false_eq_true,num_res,HNB.out,hq1.out,hq3.out,hq5.out,hq7.out,hq9.out,hq11.out,hq13.out,hq14.out]) (HF13.out.jt [] hf) hi⟩
       ·clear hp
        obtain⟨hT,HB13,HI13,HF13,hz13⟩:=Inv.st [] HB11.out HF11.out hf hi
        try simp at hz13
        clear hT hf hi
        go_wp2_with fail
        refine(accept_any c ts [[97,114,101,110,97]] _ _ 1 (by exact HI13.out.f [] H.out) rfl (by exact Blk.new_at (by simp)) rfl (by decide)).mono ?_
        rintro e w15 hp
        rcases hp.accept with ⟨hq15,_,hf,hi,rfl⟩|⟨hq15,hf,hi,rfl⟩
        ·clear hp
         have hl15:=accept_pos hq15.out rfl
         obtain⟨hT,HB15,HI15,HF15,hz15⟩:=Inv.st [] HB13.out HF13.out hf hi
         try simp at hz15
         clear hT hf hi
         go_wp2_with fail
         refine(operation_at c ts.tail _ (by exact HI15.out.f [] H.out) _ _ 17 0 (by rfl) (by rfl) (by decide)).mono ?_
         rintro e w16 hp
         rcases hp.cases with ⟨x16,ts16,v16,hq16,hf,hi,rfl,hv⟩|⟨ts16,hq16,hf,hi,rfl⟩
         ·clear hp
          obtain⟨cs,rfl,hrep⟩:=hv
          obtain⟨i16_0,s16_1,s16_2,s16_3,p16_4,n16_4,c16_4,i16_5,p16_6,n16_6,c16_6,i16_7,rfl⟩:=hrep.c_exprQ
          have hV16:Rep w16 (fun k=>w.heap.size+1≤k) _ _:=hrep.mono (fun k hk _=>⟨by (try simp at hk);omega,rfl⟩)
          obtain⟨hT,HB16,HI16,HF16,hz16⟩:=Inv.st [] HB15.out HF15.out hf hi
          try simp at hz16
          have HV16:=hid hV16
          have hl16:ts16.length≤ts.tail.length:=(shr_operation _ _).ok hq16.out
          clear hT hf hi hV16 hrep
          have hlB:w.heap.size<w16.heap.size:=by omega
          obtain⟨b0,b1,b2,b3,b4,b5,b6,b7,g0,g1,g2,g3,g4,g5,g6,g7⟩:=HB16.out.cf8
          go_wp2_with fail
          refine bodyPost_ret (v:=.agg #[.int .i64 i16_0,.string s16_1,.string s16_2,.string s16_3,.slice p16_4 n16_4 c16_4,.int .i64 i16_5,.slice p16_6 n16_6 c16_6,.int .i64 i16_7]) (by simp[results,Tryz.results103,go_sem,hlB,b0,b1,b2,b3,b4,b5,b6,b7,g0,g1,g2,g3,g4,g5,g6,g7]) rfl ?_
          clear hlB b0 b1 b2 b3 b4 b5 b6 b7 g0 g1 g2 g3 g4 g5 g6 g7
          exact RP.ok (by simp only[Px.unplaced,bind,Px.Rd.bind,offset_res,if_true,if_false,Bool.false_eq_true,num_res,HNB.out,hq1.out,hq3.out,hq5.out,hq7.out,hq9.out,hq11.out,hq13.out,hq15.out,hq16.out] <;> rfl) (HF16.out.jf [w.heap.size]) (HI16.out.f [w.heap.size] H.out) ⟨_,rfl,(rep_own (b:=w.heap.size) HV16.out (X:=[w.heap.size]) frk (by first|omega|(simp;done)|(simp;omega)) (by first|omega|(simp;done)|(simp;omega)))⟩
         ·go_wp2_with fail
          exact⟨rfl,RP.bad (by simp only[Px.unplaced,bind,Px.Rd.bind,offset_res,if_true,if_false,Bool.false_eq_true,num_res,HNB.out,hq1.out,hq3.out,hq5.out,hq7.out,hq9.out,hq11.out,hq13.out,hq15.out,hq16.out]) (HF15.out.jt [] hf) hi⟩
        ·clear hp
         obtain⟨hT,HB15,HI15,HF15,hz15⟩:=Inv.st [] HB13.out HF13.out hf hi
         try simp at hz15
         clear hT hf hi
         go_wp2_with fail
         refine(accept_any c ts [[97,108,108,111,99]] _ _ 1 (by exact HI15.out.f [] H.out) rfl (by exact Blk.new_at (by simp)) rfl (by decide)).mono ?_
         rintro e w17 hp
         rcases hp.accept with ⟨hq17,_,hf,hi,rfl⟩|⟨hq17,hf,hi,rfl⟩
         ·clear hp
          have hl17:=accept_pos hq17.out rfl
          obtain⟨hT,HB17,HI17,HF17,hz17⟩:=Inv.st [] HB15.out HF15.out hf hi
          try simp at hz17
          clear hT hf hi
          go_wp2_with fail
          refine(operation_at c ts.tail _ (by exact HI17.out.f [] H.out) _ _ 18 2 (by rfl) (by rfl) (by decide)).mono ?_
          rintro e w18 hp
          rcases hp.cases with ⟨x18,ts18,v18,hq18,hf,hi,rfl,hv⟩|⟨ts18,hq18,hf,hi,rfl⟩
          ·clear hp
           obtain⟨cs,rfl,hrep⟩:=hv
           obtain⟨i18_0,s18_1,s18_2,s18_3,p18_4,n18_4,c18_4,i18_5,p18_6,n18_6,c18_6,i18_7,rfl⟩:=hrep.c_exprQ
           have hV18:Rep w18 (fun k=>w.heap.size+1≤k) _ _:=hrep.mono (fun k hk _=>⟨by (try simp at hk);omega,rfl⟩)
           obtain⟨hT,HB18,HI18,HF18,hz18⟩:=Inv.st [] HB17.out HF17.out hf hi
           try simp at hz18
           have HV18:=hid hV18
           have hl18:ts18.length≤ts.tail.length:=(shr_operation _ _).ok hq18.out
           clear hT hf hi hV18 hrep
           have hlB:w.heap.size<w18.heap.size:=by omega
           obtain⟨b0,b1,b2,b3,b4,b5,b6,b7,g0,g1,g2,g3,g4,g5,g6,g7⟩:=HB18.out.cf8
           go_wp2_with fail
           refine bodyPost_ret (v:=.agg #[.int .i64 i18_0,.string s18_1,.string s18_2,.string s18_3,.slice p18_4 n18_4 c18_4,.int .i64 i18_5,.slice p18_6 n18_6 c18_6,.int .i64 i18_7]) (by simp[results,Tryz.results103,go_sem,hlB,b0,b1,b2,b3,b4,b5,b6,b7,g0,g1,g2,g3,g4,g5,g6,g7]) rfl ?_
           clear hlB b0 b1 b2 b3 b4 b5 b6 b7 g0 g1 g2 g3 g4 g5 g6 g7
           exact RP.ok (by simp only[Px.unplaced,bind,Px.Rd.bind,offset_res,if_true,if_false,Bool.false_eq_true,num_res,HNB.out,hq1.out,hq3.out,hq5.out,hq7.out,hq9.out,hq11.out,hq13.out,hq15.out,hq17.out,hq18.out] <;> rfl) (HF18.out.jf [w.heap.size]) (HI18.out.f [w.heap.size] H.out) ⟨_,rfl,(rep_own (b:=w.heap.size) HV18.out (X:=[w.heap.size]) frk (by first|omega|(simp;done)|(simp;omega)) (by first|omega|(simp;done)|(simp;omega)))⟩
          ·go_wp2_with fail
           exact⟨rfl,RP.bad (by simp only[Px.unplaced,bind,Px.Rd.bind,offset_res,if_true,if_false,Bool.false_eq_true,num_res,HNB.out,hq1.out,hq3.out,hq5.out,hq7.out,hq9.out,hq11.out,hq13.out,hq15.out,hq17.out,hq18.out]) (HF17.out.jt [] hf) hi⟩
         ·clear hp
          obtain⟨hT,HB17,HI17,HF17,hz17⟩:=Inv.st [] HB15.out HF15.out hf hi
          try simp at hz17
          clear hT hf hi
          go_wp2_with fail
          refine(accept_any c ts [[99,104,97,110]] _ _ 1 (by exact HI17.out.f [] H.out) rfl (by exact Blk.new_at (by simp)) rfl (by decide)).mono ?_
          rintro e w19 hp
          rcases hp.accept with ⟨hq19,_,hf,hi,rfl⟩|⟨hq19,hf,hi,rfl⟩
          ·clear hp
           have hl19:=accept_pos hq19.out rfl
           obtain⟨hT,HB19,HI19,HF19,hz19⟩:=Inv.st [] HB17.out HF17.out hf hi
           try simp at hz19
           clear hT hf hi
           go_wp2_with fail
           refine(HTY.out ts.tail _ (by exact HI19.out.f [] H.out) (by omega)).mono ?_
           rintro e w20 hp
           rcases hp.cases with ⟨x20,ts20,v20,hq20,hf,hi,rfl,hv⟩|⟨ts20,hq20,hf,hi,rfl⟩
           ·clear hp
            obtain⟨cs,rfl,hrep⟩:=hv
            obtain⟨s20_0,p20_1,n20_1,c20_1,i20_2,rfl⟩:=hrep.c_typeQ
            have hV20:Rep w20 (fun k=>w.heap.size+1≤k) _ _:=hrep.mono (fun k hk _=>⟨by (try simp at hk);omega,rfl⟩)
            obtain⟨hT,HB20,HI20,HF20,hz20⟩:=Inv.st [] HB19.out HF19.out hf hi
            try simp at hz20
            have HV20:=hid hV20
            have hl20:ts20.length≤ts.tail.length:=(shr_typeF _ _).ok hq20.out
            clear hT hf hi hV20 hrep
            have hlB:w.heap.size<w20.heap.size:=by omega
            obtain⟨b0,b1,b2,b3,b4,b5,b6,b7,g0,g1,g2,g3,g4,g5,g6,g7⟩:=HB20.out.cf8
            go_wp2_with fail
            refine bodyPost_ret (v:=.agg #[.int .i64 19,.string ⟨#[]⟩,.string ⟨#[]⟩,.string ⟨#[]⟩,.slice none 0 0,.int .i64 0,.slice (some ⟨w20.heap.size,0,none⟩) 1 1,.int .i64 0]) (by simp[results,Tryz.results103,go_sem,hlB,b0,b1,b2,b3,b4,b5,b6,b7,g0,g1,g2,g3,g4,g5,g6,g7]) rfl ?_
            clear hlB b0 b1 b2 b3 b4 b5 b6 b7 g0 g1 g2 g3 g4 g5 g6 g7
            exact RP.ok (a:={ Px.expr0 with kind:=19,type:=[x20] }) (by simp only[Px.unplaced,bind,Px.Rd.bind,offset_res,if_true,if_false,Bool.false_eq_true,num_res,HNB.out,hq1.out,hq3.out,hq5.out,hq7.out,hq9.out,hq11.out,hq13.out,hq15.out,hq17.out,hq19.out,hq20.out] <;> rfl) (HF20.out.jf [w.heap.size]) (HI20.out.f [w.heap.size] H.out) ⟨_,rfl,rep_int.2 ⟨_,rfl,rep_str.2 ⟨_,rfl,rep_str.2 ⟨_,rfl,rep_str.2 ⟨_,rfl,rep_sl.2 ⟨_,_,rfl,RowV.nil _ _ _ _,rep_int.2 ⟨_,rfl,rep_sl.2 ⟨_,_,rfl,(row_one (b:=w.heap.size) (w:=_) (g:=w20.heap.size) (xs:=[.string s20_0,.slice p20_1 n20_1 c20_1,.int .i64 i20_2]) (by repeat' (first|with_reducible refine Blk.new_at ?_|with_reducible refine Blk.alloc ?_ _|with_reducible refine Blk.other ?_ ?_ _|(simp;done)|(simp;omega))) (by omega) rfl (rep_own HV20.out (X:=[w.heap.size]) frk (by first|omega|(simp;done)|(simp;omega)) (by first|omega|(simp;done)|(simp;omega)))),rep_int.2 ⟨_,rfl,rep_nil.2 rfl⟩⟩⟩⟩⟩⟩⟩⟩⟩
           ·go_wp2_with fail
            exact⟨rfl,RP.bad (by simp only[Px.unplaced,bind,Px.Rd.bind,offset_res,if_true,if_false,Bool.false_eq_true,num_res,HNB.out,hq1.out,hq3.out,hq5.out,hq7.out,hq9.out,hq11.out,hq13.out,hq15.out,hq17.out,hq19.out,hq20.out]) (HF19.out.jt [] hf) hi⟩
          ·clear hp
           obtain⟨hT,HB19,HI19,HF19,hz19⟩:=Inv.st [] HB17.out HF17.out hf hi
           try simp at hz19
           clear hT hf hi
           go_wp2_with fail
           refine(accept_any c ts [[114,101,99,118]] _ _ 1 (by exact HI19.out.f [] H.out) rfl (by exact Blk.new_at (by simp)) rfl (by decide)).mono ?_
           rintro e w21 hp
           rcases hp.accept with ⟨hq21,_,hf,hi,rfl⟩|⟨hq21,hf,hi,rfl⟩
           ·clear hp
            have hl21:=accept_pos hq21.out rfl
            obtain⟨hT,HB21,HI21,HF21,hz21⟩:=Inv.st [] HB19.out HF19.out hf hi
            try simp at hz21
            clear hT hf hi
            go_wp2_with fail
            refine(operation_at c ts.tail _ (by exact HI21.out.f [] H.out) _ _ 20 1 (by rfl) (by rfl) (by decide)).mono ?_
            rintro e w22 hp
            rcases hp.cases with ⟨x22,ts22,v22,hq22,hf,hi,rfl,hv⟩|⟨ts22,hq22,hf,hi,rfl⟩
            ·clear hp
             obtain⟨cs,rfl,hrep⟩:=hv
             obtain⟨i22_0,s22_1,s22_2,s22_3,p22_4,n22_4,c22_4,i22_5,p22_6,n22_6,c22_6,i22_7,rfl⟩:=hrep.c_exprQ
             have hV22:Rep w22 (fun k=>w.heap.size+1≤k) _ _:=hrep.mono (fun k hk _=>⟨by (try simp at hk);omega,rfl⟩)
             obtain⟨hT,HB22,HI22,HF22,hz22⟩:=Inv.st [] HB21.out HF21.out hf hi
             try simp at hz22
             have HV22:=hid hV22
             have hl22:ts22.length≤ts.tail.length:=(shr_operation _ _).ok hq22.out
             clear hT hf hi hV22 hrep
             have hlB:w.heap.size<w22.heap.size:=by omega
             obtain⟨b0,b1,b2,b3,b4,b5,b6,b7,g0,g1,g2,g3,g4,g5,g6,g7⟩:=HB22.out.cf8
             go_wp2_with fail
             refine bodyPost_ret (v:=.agg #[.int .i64 i22_0,.string s22_1,.string s22_2,.string s22_3,.slice p22_4 n22_4 c22_4,.int .i64 i22_5,.slice p22_6 n22_6 c22_6,.int .i64 i22_7]) (by simp[results,Tryz.results103,go_sem,hlB,b0,b1,b2,b3,b4,b5,b6,b7,g0,g1,g2,g3,g4,g5,g6,g7]) rfl ?_
             clear hlB b0 b1 b2 b3 b4 b5 b6 b7 g0 g1 g2 g3 g4 g5 g6 g7
             exact RP.ok (by simp only[Px.unplaced,bind,Px.Rd.bind,offset_res,if_true,if_false,Bool.false_eq_true,num_res,HNB.out,hq1.out,hq3.out,hq5.out,hq7.out,hq9.out,hq11.out,hq13.out,hq15.out,hq17.out,hq19.out,hq21.out,hq22.out] <;> rfl) (HF22.out.jf [w.heap.size]) (HI22.out.f [w.heap.size] H.out) ⟨_,rfl,(rep_own (b:=w.heap.size) HV22.out (X:=[w.heap.size]) frk (by first|omega|(simp;done)|(simp;omega)) (by first|omega|(simp;done)|(simp;omega)))⟩
            ·go_wp2_with fail
             exact⟨rfl,RP.bad (by simp only[Px.unplaced,bind,Px.Rd.bind,offset_res,if_true,if_false,Bool.false_eq_true,num_res,HNB.out,hq1.out,hq3.out,hq5.out,hq7.out,hq9.out,hq11.out,hq13.out,hq15.out,hq17.out,hq19.out,hq21.out,hq22.out]) (HF21.out.jt [] hf) hi⟩
           ·clear hp
            obtain⟨hT,HB21,HI21,HF21,hz21⟩:=Inv.st [] HB19.out HF19.out hf hi
            try simp at hz21
            clear hT hf hi
            go_wp2_with fail
            refine(name_any c ts _ (by exact HI21.out.f [] H.out)).mono ?_
            rintro e w23 hp
            rcases hp.cases with ⟨x23,ts23,v23,hq23,hf,hi,rfl,hv⟩|⟨ts23,hq23,hf,hi,rfl⟩
            ·clear hp
             obtain rfl:=hv
             obtain⟨hT,HB23,HI23,HF23,hz23⟩:=Inv.st [] HB21.out HF21.out hf hi
             try simp at hz23
             have hl23:ts23.length<ts.length:=Strict.name _ _ _ hq23.out
             clear hT hf hi
             go_wp2_with fail
             refine(afterName_any c x23 ts23 _ (by exact HI23.out.f [] H.out)).mono ?_
             rintro e w24 hp
             rcases hp.cases with ⟨x24,ts24,v24,hq24,hf,hi,rfl,hv⟩|⟨ts24,hq24,hf,hi,rfl⟩
             ·clear hp
              obtain⟨cs,rfl,hrep⟩:=hv
              obtain⟨i24_0,s24_1,s24_2,s24_3,p24_4,n24_4,c24_4,i24_5,p24_6,n24_6,c24_6,i24_7,rfl⟩:=hrep.c_exprQ
              have hV24:Rep w24 (fun k=>w.heap.size+1≤k) _ _:=hrep.mono (fun k hk _=>⟨by (try simp at hk);omega,rfl⟩)
              obtain⟨hT,HB24,HI24,HF24,hz24⟩:=Inv.st [] HB23.out HF23.out hf hi
              try simp at hz24
              have HV24:=hid hV24
              have hl24:ts24.length≤ts23.length:=(shr_afterName _).ok hq24.out
              clear hT hf hi hV24 hrep
              have hlB:w.heap.size<w24.heap.size:=by omega
              obtain⟨b0,b1,b2,b3,b4,b5,b6,b7,g0,g1,g2,g3,g4,g5,g6,g7⟩:=HB24.out.cf8
              go_wp2_with fail
              refine bodyPost_ret (v:=.agg #[.int .i64 i24_0,.string s24_1,.string s24_2,.string s24_3,.slice p24_4 n24_4 c24_4,.int .i64 i24_5,.slice p24_6 n24_6 c24_6,.int .i64 i24_7]) (by simp[results,Tryz.results103,go_sem,hlB,b0,b1,b2,b3,b4,b5,b6,b7,g0,g1,g2,g3,g4,g5,g6,g7]) rfl ?_
              clear hlB b0 b1 b2 b3 b4 b5 b6 b7 g0 g1 g2 g3 g4 g5 g6 g7
              exact RP.ok (by simp only[Px.unplaced,bind,Px.Rd.bind,offset_res,if_true,if_false,Bool.false_eq_true,num_res,HNB.out,hq1.out,hq3.out,hq5.out,hq7.out,hq9.out,hq11.out,hq13.out,hq15.out,hq17.out,hq19.out,hq21.out,hq23.out,hq24.out] <;> rfl) (HF24.out.jf [w.heap.size]) (HI24.out.f [w.heap.size] H.out) ⟨_,rfl,(rep_own (b:=w.heap.size) HV24.out (X:=[w.heap.size]) frk (by first|omega|(simp;done)|(simp;omega)) (by first|omega|(simp;done)|(simp;omega)))⟩
             ·go_wp2_with fail
              exact⟨rfl,RP.bad (by simp only[Px.unplaced,bind,Px.Rd.bind,offset_res,if_true,if_false,Bool.false_eq_true,num_res,HNB.out,hq1.out,hq3.out,hq5.out,hq7.out,hq9.out,hq11.out,hq13.out,hq15.out,hq17.out,hq19.out,hq21.out,hq23.out,hq24.out]) (HF23.out.jt [] hf) hi⟩
            ·go_wp2_with fail
             exact⟨rfl,RP.bad (by simp only[Px.unplaced,bind,Px.Rd.bind,offset_res,if_true,if_false,Bool.false_eq_true,num_res,HNB.out,hq1.out,hq3.out,hq5.out,hq7.out,hq9.out,hq11.out,hq13.out,hq15.out,hq17.out,hq19.out,hq21.out,hq23.out]) (HF21.out.jt [] hf) hi⟩
theorem unplaced_any (c:Ctx) (ts:List Tk) (w:World) (h:Inv c ts w) (n:Nat) (hty:Reads c 77 n (okAgg typeQ) (Px.typeF c.size n)) (hm:ts.length<n) :
  Calls Tryz.prog 103 #[.pointer (some ⟨c.R,0,none⟩)] w (RP c w (okAgg exprQ) (Px.unplaced c.size n ts)):=by
 cases hn:numB ts with
 | true=>exact unplaced_num c ts w h n hty hm hn
 | false=>exact unplaced_not c ts w h n hty hm hn
set_option maxRecDepth 100000 in
set_option maxHeartbeats 1600000 in
theorem expr_any (c:Ctx) (ts:List Tk) (w:World) (h:Inv c ts w) (n:Nat) (hty:Reads c 77 n (okAgg typeQ) (Px.typeF c.size n)) (hm:ts.length<n) :
  Calls Tryz.prog 78 #[.pointer (some ⟨c.R,0,none⟩)] w (RP c w (okAgg exprQ) (Px.expr c.size n ts)):=by
 have HTY:Hid (Reads c 77 n (okAgg typeQ) (Px.typeF c.size n)):=hid hty
 clear hty
 have hmf:=make_func
 have H:=hid h
 have HR0:=H.out.lt.1
 clear h
 go_enter Tryz.func78,Tryz.ntmps78
 go_wp2_with fail
 refine(offset_any c ts _ (by exact H.out.f [] H.out)).mono ?_
 rintro e w' ⟨rfl,rfl⟩
 go_wp2_with fail
 refine(unplaced_any c ts _ (by exact H.out.f [] H.out) n HTY.out (by omega)).mono ?_
 rintro e w1 hp
 rcases hp.cases with ⟨x1,ts1,v1,hq1,hf,hi,rfl,hv⟩|⟨ts1,hq1,hf,hi,rfl⟩
 ·clear hp
  obtain⟨cs,rfl,hrep⟩:=hv
  obtain⟨i1_0,s1_1,s1_2,s1_3,p1_4,n1_4,c1_4,i1_5,p1_6,n1_6,c1_6,i1_7,rfl⟩:=hrep.c_exprQ
  have hV1:Rep w1 (fun k=>w.heap.size+1≤k) _ _:=hrep.mono (fun k hk _=>⟨by (try simp at hk);omega,rfl⟩)
  have hT:Fr [c.R] w w1:=Fr.trans frk hf.wide
  have HB1:Hid (Blk w1 (w.heap.size) 49 #[.int .i64 0,.string ⟨#[]⟩,.string ⟨#[]⟩,.string ⟨#[]⟩,.slice none 0 0,.int .i64 0,.slice none 0 0,.int .i64 0]):=hid ((Blk.new w _ _).k hf)
  have HI1:=hid hi
  have HF1:=hid ((Fr.refl [c.R] w).j hT)
  have hz1:=hf.size;try simp at hz1
  have HV1:=hid hV1
  have hl1:ts1.length≤ts.length:=(shr_unplaced _ _).ok hq1.out
  clear hT hf hi hV1 hrep
  have hlB:w.heap.size<w1.heap.size:=by omega
  obtain⟨b0,b1,b2,b3,b4,b5,b6,b7,g0,g1,g2,g3,g4,g5,g6,g7⟩:=HB1.out.cf8
  go_wp2_with fail
  refine bodyPost_ret (v:=.agg #[.int .i64 i1_0,.string s1_1,.string s1_2,.string s1_3,.slice p1_4 n1_4 c1_4,.int .i64 i1_5,.slice p1_6 n1_6 c1_6,.int .i64 (offOf c.size ts)]) (by simp[results,Tryz.results78,go_sem,hlB,b0,b1,b2,b3,b4,b5,b6,b7,g0,g1,g2,g3,g4,g5,g6,g7]) rfl ?_
  clear hlB b0 b1 b2 b3 b4 b5 b6 b7 g0 g1 g2 g3 g4 g5 g6 g7
  exact RP.ok (by simp only[Px.expr,bind,Px.Rd.bind,offset_res,if_true,if_false,Bool.false_eq_true,hq1.out] <;> rfl) (HF1.out.jf [w.heap.size]) (HI1.out.f [w.heap.size] H.out) ⟨_,rfl,expr_rep (rep_own (b:=w.heap.size) HV1.out (X:=[w.heap.size]) frk (by first|omega|(simp;done)|(simp;omega)) (by first|omega|(simp;done)|(simp;omega)))⟩
 ·go_wp2_with fail
  exact⟨rfl,RP.bad (by simp only[Px.expr,bind,Px.Rd.bind,offset_res,if_true,if_false,Bool.false_eq_true,hq1.out]) ((Fr.refl [c.R] w).jt [] hf) hi⟩
end Go.Proofs.YtghohohagbbajaaGreatDoor
