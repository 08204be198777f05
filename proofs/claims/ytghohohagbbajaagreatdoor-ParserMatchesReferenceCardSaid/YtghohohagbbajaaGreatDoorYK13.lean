/- part of the proof -/
import Derived.Test.YtghohohagbbajaaGreatDoorYKC
import Derived.Test.YtghohohagbbajaaGreatDoorYKE
set_option linter.unusedVariables false
set_option linter.unusedSimpArgs false
set_option linter.unusedSectionVars false
namespace Go.Proofs.YtghohohagbbajaaGreatDoor
open Go.RowKit Go.Lib
open Lx (Tk)
open Px (Txt TyE VarD DataD TraitD BoundD ImplD ArgD ExprD StmtD ArmD FuncD ModD)
theorem rel_op1 {sz:Nat} {s s':RS} {x:Txt} {k:Nat} (h:Rel sz Px.name s x s'):Rel sz (Px.operation k 1) s { Px.expr0 with kind:=k,names:=[x] } s':=by
 unfold Px.operation
 refine Rel.bind (a:=[x]) ?_ (Rel.pure _ _)
 show Rel sz ((Px.operands 0) >>= fun l=>Px.name >>= fun x=>Pure.pure (l ++ [x])) s _ s'
 exact Rel.bind (a:=[]) (Rel.pure _ _) (Rel.bind h (Rel.pure _ _))
theorem rel_op2 {sz:Nat} {s s1 s':RS} {x y:Txt} {k:Nat} (h:Rel sz Px.name s x s1) (h2:Rel sz Px.name s1 y s'):Rel sz (Px.operation k 2) s { Px.expr0 with kind:=k,names:=[x,y] } s':=by
 unfold Px.operation
 refine Rel.bind (a:=[x,y]) ?_ (Rel.pure _ _)
 show Rel sz ((Px.operands 1) >>= fun l=>Px.name >>= fun x=>Pure.pure (l ++ [x])) s _ s'
 refine Rel.bind (a:=[x]) ?_ (Rel.bind h2 (Rel.pure _ _))
 show Rel sz ((Px.operands 0) >>= fun l=>Px.name >>= fun x=>Pure.pure (l ++ [x])) s _ s1
 exact Rel.bind (a:=[]) (Rel.pure _ _) (Rel.bind h (Rel.pure _ _))
theorem rel_op0 {sz:Nat} {s:RS} {k:Nat} : Rel sz (Px.operation k 0) s { Px.expr0 with kind:=k } s:=by
 unfold Px.operation
 exact Rel.bind (p:=Px.operands 0) (a:=[]) (Rel.pure _ _) (Rel.pure _ _)
def opW (i:Nat):Txt:=OpWords.getD i []
theorem opW_words:∀ i,i<5→opW i∈Words∧(opW i).length≤20000∧opW i∈OpWords:=by decide
theorem rel_after_op {sz:Nat} {x w y:Txt} {s s1 s2:RS} (hw:w∈OpWords) (h1:Rel sz (Px.accept [w]) s true s1) (h2:Rel sz Px.name s1 y s2):Rel sz (Px.afterName x) s { Px.expr0 with kind:=3,op:=w,names:=[x,y] } s2:=by
 have h:Rel sz (do let _ ← Px.accept [w];let y ← Px.name;Pure.pure { Px.expr0 with kind:=3,op:=w,names:=[x,y] } : Px.Rd ExprD) s { Px.expr0 with kind:=3,op:=w,names:=[x,y] } s2:=Rel.bind h1 (Rel.bind h2 (Rel.pure _ s2))
 refine Rel.at0 h (fun ts e=>?_)
 subst e
 exact(after_op x w hw ts (acc_true h1).1).symm
theorem rel_after_no {sz:Nat} {x:Txt} {s s2:RS} {e:ExprD} (hn:∀ j,j<5→Rel sz (Px.accept [opW j]) s false s) (h:Rel sz (refN x) s e s2):Rel sz (Px.afterName x) s e s2:=by
 refine Rel.at0 h (fun ts e=>?_)
 subst e
 refine(after_no x ts (fun w hw=>?_)).symm
 obtain⟨j,hj,e⟩:=List.mem_iff_getElem.1 hw
 have hj':j<5:=hj
 have:=acc_false (hn j hj')
 have e2:opW j=w:=by rw[← e];unfold opW;rw[List.getD_eq_getElem?_getD,List.getElem?_eq_getElem hj];rfl
 rw[e2] at this
 exact this
theorem rel_refN_dot {sz:Nat} {x:Txt} {s s1 s2:RS} {k:Nat} (h1:Rel sz (Px.accept [[46]]) s true s1) (h2:Rel sz Px.number s1 k s2):Rel sz (refN x) s { Px.expr0 with kind:=13,names:=[x],num:=k } s2:=by
 unfold refN
 refine Rel.bind h1 ?_
 simp only[if_true]
 exact Rel.bind h2 (Rel.pure _ _)
theorem rel_refN_colon {sz:Nat} {x y:Txt} {s s1 s2:RS} (h0:Rel sz (Px.accept [[46]]) s false s) (h1:Rel sz (Px.accept [[58,58]]) s true s1) (h2:Rel sz Px.name s1 y s2):Rel sz (refN x) s { Px.expr0 with kind:=16,name:=x,names:=[y] } s2:=by
 unfold refN
 refine Rel.bind h0 ?_
 simp only[Bool.false_eq_true,if_false]
 refine Rel.bind h1 ?_
 simp only[if_true]
 exact Rel.bind h2 (Rel.pure _ _)
theorem rel_refN_call {sz:Nat} {x:Txt} {l:List Txt} {s s2:RS} (h0:Rel sz (Px.accept [[46]]) s false s) (h1:Rel sz (Px.accept [[58,58]]) s false s) (hx:∀ ts,s=.live ts→Px.word ts=[40]) (h2:Rel sz (Px.possiblyEmptyList [40] Px.name [41]) s l s2):Rel sz (refN x) s { Px.expr0 with kind:=15,name:=x,names:=l } s2:=by
 unfold refN
 refine Rel.bind h0 ?_
 simp only[Bool.false_eq_true,if_false]
 refine Rel.bind h1 ?_
 have h3:Rel sz (do let l ← Px.possiblyEmptyList [40] Px.name [41];Pure.pure { Px.expr0 with kind:=15,name:=x,names:=l } : Px.Rd ExprD) s { Px.expr0 with kind:=15,name:=x,names:=l } s2:=Rel.bind h2 (Rel.pure _ s2)
 refine Rel.at0 h3 (fun ts e=>?_)
 have:=hx ts e
 show _=(if Px.word ts=[40] then _ else _)
 rw[if_pos this]
theorem rel_refN_name {sz:Nat} {x:Txt} {s:RS} (h0:Rel sz (Px.accept [[46]]) s false s) (h1:Rel sz (Px.accept [[58,58]]) s false s) (h2:Rel sz (Px.accept [[40]]) s false s):Rel sz (refN x) s { Px.expr0 with kind:=2,names:=[x] } s:=by
 unfold refN
 refine Rel.bind h0 ?_
 simp only[Bool.false_eq_true,if_false]
 refine Rel.bind h1 ?_
 have h3:=Rel.pure (sz:=sz) ({ Px.expr0 with kind:=2,names:=[x] } : ExprD) s
 refine Rel.at0 h3 (fun ts e=>?_)
 subst e
 have:=acc_false h2
 show _=(if Px.word ts=[40] then _ else _)
 rw[if_neg this]
set_option maxRecDepth 100000 in
set_option maxHeartbeats 1600000 in
theorem rlent_any (c:RCtx) (pl be ins o:Nat) (s:RS) (w:World) (h:IR c s w) :
  Calls Tryz.prog 141 #[.pointer (some ⟨c.R,0,none⟩),.agg #[.int .i64 0,.string ⟨#[]⟩,.string ⟨#[]⟩,.string ⟨#[]⟩,.slice none 0 0,.int .i64 0,.slice none 0 0,.int .i64 o],.int .i64 pl,.int .i64 be,.int .i64 ins] w (RD c w (okAgg exprQ) ((Px.reference pl be ins >>= fun e=>Pure.pure { e with off:=o })) s):=by
 have H:=hid h
 have HR0:=H.out.lt.1
 clear h
 go_enter Tryz.func141,Tryz.ntmps141
 go_upto_region 1 with fail
 obtain⟨w0,hw0⟩:∃ w0,w0=(w.alloc (.cells #[.int .i64 0,.string ⟨#[]⟩,.string ⟨#[]⟩,.string ⟨#[]⟩,.slice none 0 0,.int .i64 0,.slice none 0 0,.int .i64 o] 49)).alloc (.cells #[.int .i64 0,.string ⟨#[]⟩,.string ⟨#[]⟩,.string ⟨#[]⟩,.slice none 0 0,.int .i64 0,.slice none 0 0,.int .i64 0] 49):=⟨_,rfl⟩
 have HI0:Hid (IR c s w0):=hid (by rw[hw0];exact(H.out.alloc _).alloc _)
 have HF0:Hid (Fr [c.R] w w0):=hid (by rw[hw0];exact((Fr.refl _ _).alloc _).alloc _)
 have HD0:Hid (Blk w0 (w.heap.size) 49 #[zI,zS,zS,zS,zN,zI,zN,.int .i64 o]):=hid (by rw[hw0];exact(Blk.new _ _ _).alloc _)
 have HB0:Hid (Blk w0 (w.heap.size+1) 49 #[zI,zS,zS,zS,zN,zI,zN,zI]):=hid (by rw[hw0];exact Blk.new_at (by simp))
 have hz0:w.heap.size+2≤w0.heap.size:=by rw[hw0];simp
 rw[← hw0]
 clear hw0
 have hlD:=HD0.out.lt
 obtain⟨d0,f0⟩:=HD0.out.df 0 (v:=.int .i64 0) rfl
 go_wp2_with fail
 clear hlD d0 f0
 refine(rnext_q c s [42] _ (by exact HI0.out.f [w.heap.size] H.out)).mono ?_
 rintro e w1 (⟨s1,hq1,hl1,rfl,hf,hi⟩|⟨hq1,rfl,hf,hi⟩)
 ·skip
  obtain⟨hT,HB1,HI1,HF1,hz1⟩:=IR.st [w.heap.size] HB0.out HF0.out hf hi
  try simp at hz1
  have HD1:Hid (Blk w1 (w.heap.size) 49 #[.int .i64 pl,zS,zS,zS,zN,zI,zN,.int .i64 o]):=hid ((HD0.out.set 0 (.int .i64 pl)).k hf)
  clear hT hf hi
  have hlD:=HD1.out.lt
  obtain⟨d0,f0⟩:=HD1.out.df 0 (v:=.int .i64 pl) rfl
  go_wp2_with fail
  clear hlD d0 f0
  refine(rname_any c s1 _ (by exact HI1.out.f [w.heap.size] H.out)).mono ?_
  rintro e w2 ⟨_,x2,s2,rfl,hq2,hf,hi,rfl⟩
  obtain⟨hT,HB2,HI2,HF2,hz2⟩:=IR.st [w.heap.size] HB1.out HF1.out hf hi
  try simp at hz2
  have HD2:Hid (Blk w2 (w.heap.size) 49 #[.int .i64 be,zS,zS,zS,zN,zI,zN,.int .i64 o]):=hid ((HD1.out.set 0 (.int .i64 be)).k hf)
  have hl2:=hq2.out.mu Shr.name
  clear hT hf hi
  have hlD:=HD2.out.lt
  obtain⟨d4,f4⟩:=HD2.out.df 4 (v:=.slice none 0 0) rfl
  go_wp2_with (first|(refine wpList_load_row rfl 49 _ rfl (w.heap.size) rfl 49 #[.int .i64 be,.string ⟨#[]⟩,.string ⟨#[]⟩,.string ⟨#[]⟩,.slice (some ⟨w2.heap.size,0,none⟩) 1 1,.int .i64 0,.slice none 0 0,.int .i64 o] (0,0) _ (Blk.alloc (HD2.out.set 4 (.slice (some ⟨w2.heap.size,0,none⟩) 1 1)) _) Tryz.underlying49 rfl rexpr_size ?_)|(refine wpList_store_row rfl 49 _ _ rfl (w.heap.size+1) _ rfl rfl 49 _ (HB2.out.row [w.heap.size]) rexpr_size rfl (by simp[Value.oneCell']) ?_))
  refine bodyPost_ret (results_cell_row (p:=10) rfl _ _ (w.heap.size+1) 49 _ (0,0) _ rfl (setRow_heap _ _ _ _ _ _ (HB2.out.row [w.heap.size])) Tryz.underlying49 rfl rexpr_size) rfl ?_
  clear hlD d4 f4
  exact RD.mk (⟨be,[],[],[],[x2],0,[],o⟩) s2 (by refine Rel.bind (p:=Px.reference pl be ins) (a:={ Px.expr0 with kind:=be,names:=[x2] }) ?_ (Rel.pure _ _);unfold Px.reference;refine Rel.by hq1.out ?_;exact rel_op1 hq2.out) (HF2.out.jf [w.heap.size,w.heap.size+1]) (HI2.out.f [w.heap.size,w.heap.size+1] H.out) ⟨_,rfl,(by unfold exprQ strsQ typesS;exact rep_int.2 ⟨_,rfl,rep_str.2 ⟨_,rfl,rep_str.2 ⟨_,rfl,rep_str.2 ⟨_,rfl,rep_sl.2 ⟨_,_,rfl,(strs_rowk (N:=(fun k=>w.heap.size≤k)) (l:=[x2]) (g:=w2.heap.size) (show Blk _ _ _ #[.string ⟨x2.toArray⟩] from (by repeat' (first|with_reducible refine Blk.new_at ?_|with_reducible refine Blk.alloc ?_ _|with_reducible refine Blk.other ?_ ?_ _|with_reducible refine Blk.setRow_other ?_ ?_|(simp;done)|(simp;omega)))) (by (try simp);omega) (by simp) (by simp)),rep_int.2 ⟨_,rfl,rep_sl.2 ⟨_,_,rfl,RowV.nil _ _ _ _,rep_int.2 ⟨_,rfl,rep_nil.2 rfl⟩⟩⟩⟩⟩⟩⟩⟩)⟩
 ·skip
  obtain⟨hT,HB1,HI1,HF1,hz1⟩:=IR.st [w.heap.size] HB0.out HF0.out hf hi
  try simp at hz1
  have HD1:Hid (Blk w1 (w.heap.size) 49 #[.int .i64 pl,zS,zS,zS,zN,zI,zN,.int .i64 o]):=hid ((HD0.out.set 0 (.int .i64 pl)).k hf)
  clear hT hf hi
  have hlD:=HD1.out.lt
  go_wp2_with fail
  clear hlD
  refine(rnext_q c s [105,110] _ (by exact HI1.out.f [w.heap.size] H.out)).mono ?_
  rintro e w3 (⟨s3,hq3,hl3,rfl,hf,hi⟩|⟨hq3,rfl,hf,hi⟩)
  ·skip
   obtain⟨hT,HB3,HI3,HF3,hz3⟩:=IR.st [w.heap.size] HB1.out HF1.out hf hi
   try simp at hz3
   have HD3:=hid (HD1.out.k hf)
   clear hT hf hi
   have hlD:=HD3.out.lt
   obtain⟨d0,f0⟩:=HD3.out.df 0 (v:=.int .i64 pl) rfl
   go_wp2_with fail
   clear hlD d0 f0
   refine(rname_any c s3 _ (by exact HI3.out.f [w.heap.size] H.out)).mono ?_
   rintro e w4 ⟨_,x4,s4,rfl,hq4,hf,hi,rfl⟩
   obtain⟨hT,HB4,HI4,HF4,hz4⟩:=IR.st [w.heap.size] HB3.out HF3.out hf hi
   try simp at hz4
   have HD4:Hid (Blk w4 (w.heap.size) 49 #[.int .i64 ins,zS,zS,zS,zN,zI,zN,.int .i64 o]):=hid ((HD3.out.set 0 (.int .i64 ins)).k hf)
   have hl4:=hq4.out.mu Shr.name
   clear hT hf hi
   have hlD:=HD4.out.lt
   obtain⟨d4,f4⟩:=HD4.out.df 4 (v:=.slice none 0 0) rfl
   go_wp2_with (first|(refine wpList_load_row rfl 49 _ rfl (w.heap.size) rfl 49 #[.int .i64 ins,.string ⟨#[]⟩,.string ⟨#[]⟩,.string ⟨#[]⟩,.slice (some ⟨w4.heap.size,0,none⟩) 1 1,.int .i64 0,.slice none 0 0,.int .i64 o] (0,0) _ (Blk.alloc (HD4.out.set 4 (.slice (some ⟨w4.heap.size,0,none⟩) 1 1)) _) Tryz.underlying49 rfl rexpr_size ?_)|(refine wpList_store_row rfl 49 _ _ rfl (w.heap.size+1) _ rfl rfl 49 _ (HB4.out.row [w.heap.size]) rexpr_size rfl (by simp[Value.oneCell']) ?_))
   refine bodyPost_ret (results_cell_row (p:=10) rfl _ _ (w.heap.size+1) 49 _ (0,0) _ rfl (setRow_heap _ _ _ _ _ _ (HB4.out.row [w.heap.size])) Tryz.underlying49 rfl rexpr_size) rfl ?_
   clear hlD d4 f4
   exact RD.mk (⟨ins,[],[],[],[x4],0,[],o⟩) s4 (by refine Rel.bind (p:=Px.reference pl be ins) (a:={ Px.expr0 with kind:=ins,names:=[x4] }) ?_ (Rel.pure _ _);unfold Px.reference;refine .bn hq1.out<|.by hq3.out ?_;exact rel_op1 hq4.out) (HF4.out.jf [w.heap.size,w.heap.size+1]) (HI4.out.f [w.heap.size,w.heap.size+1] H.out) ⟨_,rfl,(by unfold exprQ strsQ typesS;exact rep_int.2 ⟨_,rfl,rep_str.2 ⟨_,rfl,rep_str.2 ⟨_,rfl,rep_str.2 ⟨_,rfl,rep_sl.2 ⟨_,_,rfl,(strs_rowk (N:=(fun k=>w.heap.size≤k)) (l:=[x4]) (g:=w4.heap.size) (show Blk _ _ _ #[.string ⟨x4.toArray⟩] from (by repeat' (first|with_reducible refine Blk.new_at ?_|with_reducible refine Blk.alloc ?_ _|with_reducible refine Blk.other ?_ ?_ _|with_reducible refine Blk.setRow_other ?_ ?_|(simp;done)|(simp;omega)))) (by (try simp);omega) (by simp) (by simp)),rep_int.2 ⟨_,rfl,rep_sl.2 ⟨_,_,rfl,RowV.nil _ _ _ _,rep_int.2 ⟨_,rfl,rep_nil.2 rfl⟩⟩⟩⟩⟩⟩⟩⟩)⟩
  ·skip
   obtain⟨hT,HB3,HI3,HF3,hz3⟩:=IR.st [w.heap.size] HB1.out HF1.out hf hi
   try simp at hz3
   have HD3:=hid (HD1.out.k hf)
   clear hT hf hi
   have hlD:=HD3.out.lt
   go_wp2_with fail
   clear hlD
   refine(rname_any c s _ (by exact HI3.out.f [w.heap.size] H.out)).mono ?_
   rintro e w5 ⟨_,x5,s5,rfl,hq5,hf,hi,rfl⟩
   obtain⟨hT,HB5,HI5,HF5,hz5⟩:=IR.st [w.heap.size] HB3.out HF3.out hf hi
   try simp at hz5
   have HD5:=hid (HD3.out.k hf)
   have hl5:=hq5.out.mu Shr.name
   clear hT hf hi
   have hlD:=HD5.out.lt
   obtain⟨d4,f4⟩:=HD5.out.df 4 (v:=.slice none 0 0) rfl
   go_wp2_with (first|(refine wpList_load_row rfl 49 _ rfl (w.heap.size) rfl 49 #[.int .i64 pl,.string ⟨#[]⟩,.string ⟨#[]⟩,.string ⟨#[]⟩,.slice (some ⟨w5.heap.size,0,none⟩) 1 1,.int .i64 0,.slice none 0 0,.int .i64 o] (0,0) _ (Blk.alloc (HD5.out.set 4 (.slice (some ⟨w5.heap.size,0,none⟩) 1 1)) _) Tryz.underlying49 rfl rexpr_size ?_)|(refine wpList_store_row rfl 49 _ _ rfl (w.heap.size+1) _ rfl rfl 49 _ (HB5.out.row [w.heap.size]) rexpr_size rfl (by simp[Value.oneCell']) ?_))
   refine bodyPost_ret (results_cell_row (p:=10) rfl _ _ (w.heap.size+1) 49 _ (0,0) _ rfl (setRow_heap _ _ _ _ _ _ (HB5.out.row [w.heap.size])) Tryz.underlying49 rfl rexpr_size) rfl ?_
   clear hlD d4 f4
   exact RD.mk (⟨pl,[],[],[],[x5],0,[],o⟩) s5 (by refine Rel.bind (p:=Px.reference pl be ins) (a:={ Px.expr0 with kind:=pl,names:=[x5] }) ?_ (Rel.pure _ _);unfold Px.reference;refine .bn hq1.out<|.bn hq3.out ?_;exact rel_op1 hq5.out) (HF5.out.jf [w.heap.size,w.heap.size+1]) (HI5.out.f [w.heap.size,w.heap.size+1] H.out) ⟨_,rfl,(by unfold exprQ strsQ typesS;exact rep_int.2 ⟨_,rfl,rep_str.2 ⟨_,rfl,rep_str.2 ⟨_,rfl,rep_str.2 ⟨_,rfl,rep_sl.2 ⟨_,_,rfl,(strs_rowk (N:=(fun k=>w.heap.size≤k)) (l:=[x5]) (g:=w5.heap.size) (show Blk _ _ _ #[.string ⟨x5.toArray⟩] from (by repeat' (first|with_reducible refine Blk.new_at ?_|with_reducible refine Blk.alloc ?_ _|with_reducible refine Blk.other ?_ ?_ _|with_reducible refine Blk.setRow_other ?_ ?_|(simp;done)|(simp;omega)))) (by (try simp);omega) (by simp) (by simp)),rep_int.2 ⟨_,rfl,rep_sl.2 ⟨_,_,rfl,RowV.nil _ _ _ _,rep_int.2 ⟨_,rfl,rep_nil.2 rfl⟩⟩⟩⟩⟩⟩⟩⟩)⟩
set_option maxRecDepth 100000 in
set_option maxHeartbeats 6400000 in
theorem rbegun_any (c:RCtx) (x:Txt) (o:Nat) (s:RS) (w:World) (h:IR c s w) :
  Calls Tryz.prog 142 #[.pointer (some ⟨c.R,0,none⟩),.agg #[.int .i64 0,.string ⟨#[]⟩,.string ⟨#[]⟩,.string ⟨#[]⟩,.slice none 0 0,.int .i64 0,.slice none 0 0,.int .i64 o],.string ⟨x.toArray⟩] w (RD c w (okAgg exprQ) ((Px.afterName x >>= fun e=>Pure.pure { e with off:=o })) s):=by
 have H:=hid h
 have HR0:=H.out.lt.1
 clear h
 go_enter Tryz.func142,Tryz.ntmps142
 go_upto_region 1 with fail
 obtain⟨w0,hw0⟩:∃ w0,w0=(w.alloc (.cells #[.int .i64 0,.string ⟨#[]⟩,.string ⟨#[]⟩,.string ⟨#[]⟩,.slice none 0 0,.int .i64 0,.slice none 0 0,.int .i64 o] 49)).alloc (.cells #[.int .i64 0,.string ⟨#[]⟩,.string ⟨#[]⟩,.string ⟨#[]⟩,.slice none 0 0,.int .i64 0,.slice none 0 0,.int .i64 0] 49):=⟨_,rfl⟩
 have HI0:Hid (IR c s w0):=hid (by rw[hw0];exact(H.out.alloc _).alloc _)
 have HF0:Hid (Fr [c.R] w w0):=hid (by rw[hw0];exact((Fr.refl _ _).alloc _).alloc _)
 have HD0:Hid (Blk w0 (w.heap.size) 49 #[zI,zS,zS,zS,zN,zI,zN,.int .i64 o]):=hid (by rw[hw0];exact(Blk.new _ _ _).alloc _)
 have HB0:Hid (Blk w0 (w.heap.size+1) 49 #[zI,zS,zS,zS,zN,zI,zN,zI]):=hid (by rw[hw0];exact Blk.new_at (by simp))
 have hz0:w.heap.size+2≤w0.heap.size:=by rw[hw0];simp
 rw[← hw0]
 clear hw0
 go_wp2_with fail
 obtain⟨w1,hw1⟩:∃ w1,w1=w0.alloc (.cells #[.string ⟨#[43]⟩,.string ⟨#[45]⟩,.string ⟨#[42]⟩,.string ⟨#[60]⟩,.string ⟨#[61,61]⟩] 9):=⟨_,rfl⟩
 have HI1:Hid (IR c s w1):=hid (by rw[hw1];exact HI0.out.alloc _)
 have HF1:Hid (Fr [c.R] w w1):=hid (by rw[hw1];exact HF0.out.alloc _)
 have HD1:Hid (Blk w1 (w.heap.size) 49 #[zI,zS,zS,zS,zN,zI,zN,.int .i64 o]):=hid (by rw[hw1];exact HD0.out.alloc _)
 have HB1:Hid (Blk w1 (w.heap.size+1) 49 #[zI,zS,zS,zS,zN,zI,zN,zI]):=hid (by rw[hw1];exact HB0.out.alloc _)
 have HO1:Hid (Blk w1 w0.heap.size 9 #[.string ⟨#[43]⟩,.string ⟨#[45]⟩,.string ⟨#[42]⟩,.string ⟨#[60]⟩,.string ⟨#[61,61]⟩]):=hid (by rw[hw1];exact Blk.new _ _ _)
 have hz1:w0.heap.size+1≤w1.heap.size:=by rw[hw1];simp
 rw[← hw1]
 clear hw1
 go_loopw [8] (fun v wr=>∃ i:Nat,v=.int .i64 i∧i≤5∧IR c s wr∧Fr [c.R] w1 wr∧∀ j,j<i→Rel c.size (Px.accept [opW j]) s false s) (fun v _=>5 - (RowKit.intOf v).toNat)
 case atStart=>exact⟨0,rfl,by omega,HI1.out,Fr.refl _ _,fun j hj=>by omega⟩
 case round =>
  obtain⟨i,rfl,hi5,hir,hfr,hall⟩:=hrel
  have hfo0:=hid hfr
  have HIr:=hid hir
  have HFr:=hid (HF1.out.trans hfr)
  have HDr:=hid (HD1.out.keep hfr (by simp;omega))
  have HBr:=hid (HB1.out.keep hfr (by simp;omega))
  have HOr:=hid (HO1.out.keep hfr (by simp;omega))
  have HALL:=hid hall
  have hzr:w1.heap.size≤wr.heap.size:=hfr.size
  clear hir hfr hall
  by_cases hil:i<5
  ·have hd2:decide (i<5)=true:=by simpa using hil
   have hd3:decide ((i:Int)<5)=true:=by simp;omega
   obtain⟨hmem,hlen,hop⟩:=opW_words i hil
   have hcO:∀ i,i<5→(#[.string ⟨#[43]⟩,.string ⟨#[45]⟩,.string ⟨#[42]⟩,.string ⟨#[60]⟩,.string ⟨#[61,61]⟩]:Array Value)[i]?=some (.string ⟨(opW i).toArray⟩):=by
    intro i hi
    match i,hi with
    | 0,_=>rfl
    | 1,_=>rfl
    | 2,_=>rfl
    | 3,_=>rfl
    | 4,_=>rfl
   have ho:wr.cell? ⟨w0.heap.size,i,none⟩=some (.string ⟨(opW i).toArray⟩):=(HOr.out.cell i).trans (hcO i hil)
   have HCO:=hid (hcO i hil)
   clear hcO
   go_wp2_with fail
   clear ho
   refine(rnext_any c s (opW i) _ (by exact HIr.out.f [w.heap.size] H.out) hmem hlen).mono ?_
   rintro e w1 hp
   rcases hp.next with ⟨s1,hq1,hl1,rfl,hf,hi⟩|⟨hq1,rfl,hf,hi⟩
   ·clear hp
    obtain⟨hT,HB1,HI1,HF1,hz1⟩:=IR.st [w.heap.size] HBr.out HFr.out hf hi
    try simp at hz1
    have HD1:=hid (HDr.out.k hf)
    have hfo1:=hid hf
    clear hT hf hi
    have ho:w1.cell? ⟨w0.heap.size,i,none⟩=some (.string ⟨(opW i).toArray⟩):=((HOr.out.keep hfo1.out (by simp;omega)).cell i).trans HCO.out
    have hlD:=HD1.out.lt
    obtain⟨d0,f0⟩:=HD1.out.df 0 (v:=.int .i64 0) rfl
    obtain⟨d1,f1⟩:=HD1.out.df 1 (v:=.string ⟨#[]⟩) rfl
    go_wp2_with fail
    clear hlD d0 f0 d1 f1
    clear ho
    refine(rname_any c s1 _ (by exact HI1.out.f [w.heap.size] H.out)).mono ?_
    rintro e w2 ⟨_,x2,s2,rfl,hq2,hf,hi,rfl⟩
    obtain⟨hT,HB2,HI2,HF2,hz2⟩:=IR.st [w.heap.size] HB1.out HF1.out hf hi
    try simp at hz2
    have HD2:Hid (Blk w2 (w.heap.size) 49 #[.int .i64 3,.string ⟨(opW i).toArray⟩,zS,zS,zN,zI,zN,.int .i64 o]):=hid (((HD1.out.set 0 (.int .i64 3)).set 1 (.string ⟨(opW i).toArray⟩)).k hf)
    have hl2:=hq2.out.mu Shr.name
    clear hT hf hi
    have hlD:=HD2.out.lt
    obtain⟨d4,f4⟩:=HD2.out.df 4 (v:=.slice none 0 0) rfl
    go_wp2_with (first|(refine wpList_load_row rfl 49 _ rfl (w.heap.size) rfl 49 #[.int .i64 3,.string ⟨(opW i).toArray⟩,.string ⟨#[]⟩,.string ⟨#[]⟩,.slice (some ⟨w2.heap.size,0,none⟩) 2 2,.int .i64 0,.slice none 0 0,.int .i64 o] (0,0) _ (Blk.alloc (HD2.out.set 4 (.slice (some ⟨w2.heap.size,0,none⟩) 2 2)) _) Tryz.underlying49 rfl rexpr_size ?_)|(refine wpList_store_row rfl 49 _ _ rfl (w.heap.size+1) _ rfl rfl 49 _ (HB2.out.row [w.heap.size]) rexpr_size rfl (by simp[Value.oneCell']) ?_))
    refine bodyPost_ret (results_cell_row (p:=6) rfl _ _ (w.heap.size+1) 49 _ (0,0) _ rfl (setRow_heap _ _ _ _ _ _ (HB2.out.row [w.heap.size])) Tryz.underlying49 rfl rexpr_size) rfl ?_
    clear hlD d4 f4
    exact RD.mk (⟨3,opW i,[],[],[x,x2],0,[],o⟩) s2 (by refine Rel.bind (p:=Px.afterName x) (a:={ Px.expr0 with kind:=3,op:=opW i,names:=[x,x2] }) ?_ (Rel.pure _ _);exact rel_after_op hop hq1.out hq2.out) (HF2.out.jf [w.heap.size,w.heap.size+1]) (HI2.out.f [w.heap.size,w.heap.size+1] H.out) ⟨_,rfl,(by unfold exprQ strsQ typesS;exact rep_int.2 ⟨_,rfl,rep_str.2 ⟨_,rfl,rep_str.2 ⟨_,rfl,rep_str.2 ⟨_,rfl,rep_sl.2 ⟨_,_,rfl,(strs_rowk (N:=(fun k=>w.heap.size≤k)) (l:=[x,x2]) (g:=w2.heap.size) (show Blk _ _ _ #[.string ⟨x.toArray⟩,.string ⟨x2.toArray⟩] from (by repeat' (first|with_reducible refine Blk.new_at ?_|with_reducible refine Blk.alloc ?_ _|with_reducible refine Blk.other ?_ ?_ _|with_reducible refine Blk.setRow_other ?_ ?_|(simp;done)|(simp;omega)))) (by (try simp);omega) (by simp) (by simp)),rep_int.2 ⟨_,rfl,rep_sl.2 ⟨_,_,rfl,RowV.nil _ _ _ _,rep_int.2 ⟨_,rfl,rep_nil.2 rfl⟩⟩⟩⟩⟩⟩⟩⟩)⟩
   ·clear hp
    obtain⟨hT,HB1,HI1,HF1,hz1⟩:=IR.st [w.heap.size] HBr.out HFr.out hf hi
    try simp at hz1
    have HD1:=hid (HDr.out.k hf)
    have hfo1:=hid hf
    clear hT hf hi
    go_wp2_with fail
    go_roundw
    case rel=>exact⟨i+1,by go_num,by omega,HI1.out,(hfo0.out.trans hfo1.out),fun j hj=>by
     rcases Nat.lt_or_ge j i with h|h
     ·exact HALL.out j h
     ·have:j=i:=by omega
      rw[this];exact hq1.out⟩
    case measure=>simp[RowKit.intOf];omega
  ·have hd2:decide (i<5)=false:=by simpa using hil
   have hd3:decide ((i:Int)<5)=false:=by simp;omega
   have HNO:Hid (∀ j,j<5→Rel c.size (Px.accept [opW j]) s false s):=hid (fun j hj=>HALL.out j (by omega))
   go_wp2_with fail
   refine(rnext_q c s [46] _ (by exact HIr.out.f [w.heap.size] H.out)).mono ?_
   rintro e w3 (⟨s3,hq3,hl3,rfl,hf,hi⟩|⟨hq3,rfl,hf,hi⟩)
   ·skip
    obtain⟨hT,HB3,HI3,HF3,hz3⟩:=IR.st [w.heap.size] HBr.out HFr.out hf hi
    try simp at hz3
    have HD3:=hid (HDr.out.k hf)
    clear hT hf hi
    have hlD:=HD3.out.lt
    obtain⟨d0,f0⟩:=HD3.out.df 0 (v:=.int .i64 0) rfl
    obtain⟨d4,f4⟩:=HD3.out.df 4 (v:=.slice none 0 0) rfl
    go_wp2_with fail
    clear hlD d0 f0 d4 f4
    refine(rnumber_any c s3 _ (by exact HI3.out.f [w.heap.size] H.out)).mono ?_
    rintro e w4 ⟨_,x4,s4,rfl,hq4,hf,hi,rfl⟩
    obtain⟨hT,HB4,HI4,HF4,hz4⟩:=IR.st [w.heap.size] HB3.out HF3.out hf hi
    try simp at hz4
    have HD4:Hid (Blk w4 (w.heap.size) 49 #[.int .i64 13,zS,zS,zS,.slice (some ⟨w3.heap.size,0,none⟩) 1 1,zI,zN,.int .i64 o]):=hid ((Blk.alloc ((HD3.out.set 0 (.int .i64 13)).set 4 (.slice (some ⟨w3.heap.size,0,none⟩) 1 1)) _).k hf)
    have hN:Blk w4 (w3.heap.size) 9 #[.string ⟨x.toArray⟩]:=Blk.keep (by repeat' (first|with_reducible refine Blk.new_at ?_|with_reducible refine Blk.alloc ?_ _|with_reducible refine Blk.other ?_ ?_ _|with_reducible refine Blk.setRow_other ?_ ?_|(simp;done)|(simp;omega))) hf (by simp;omega)
    have hNr:=strs_rowk (N:=(fun k=>w.heap.size≤k∧k≠w.heap.size+1∧k≠w.heap.size)) (l:=[x]) hN (by (try simp);omega) (by simp) (by simp)
    have HS_4:=hid hNr
    clear hN hNr
    have hl4:=hq4.out.mu Shr.number
    clear hT hf hi
    have hlD:=HD4.out.lt
    obtain⟨d5,f5⟩:=HD4.out.df 5 (v:=.int .i64 0) rfl
    go_wp2_with (first|(refine wpList_load_row rfl 49 _ rfl (w.heap.size) rfl 49 #[.int .i64 13,.string ⟨#[]⟩,.string ⟨#[]⟩,.string ⟨#[]⟩,.slice (some ⟨w3.heap.size,0,none⟩) 1 1,.int .i64 x4,.slice none 0 0,.int .i64 o] (0,0) _ (HD4.out.set 5 (.int .i64 x4)) Tryz.underlying49 rfl rexpr_size ?_)|(refine wpList_store_row rfl 49 _ _ rfl (w.heap.size+1) _ rfl rfl 49 _ (HB4.out.row [w.heap.size]) rexpr_size rfl (by simp[Value.oneCell']) ?_))
    refine bodyPost_ret (results_cell_row (p:=6) rfl _ _ (w.heap.size+1) 49 _ (0,0) _ rfl (setRow_heap _ _ _ _ _ _ (HB4.out.row [w.heap.size])) Tryz.underlying49 rfl rexpr_size) rfl ?_
    clear hlD d5 f5
    exact RD.mk (⟨13,[],[],[],[x],x4,[],o⟩) s4 (by refine Rel.bind (p:=Px.afterName x) (a:={ Px.expr0 with kind:=13,name:=[],names:=[x],num:=x4 }) ?_ (Rel.pure _ _);exact rel_after_no HNO.out (rel_refN_dot hq3.out hq4.out)) (HF4.out.jf [w.heap.size,w.heap.size+1]) (HI4.out.f [w.heap.size,w.heap.size+1] H.out) ⟨_,rfl,(by unfold exprQ strsQ typesS;exact rep_int.2 ⟨_,rfl,rep_str.2 ⟨_,rfl,rep_str.2 ⟨_,rfl,rep_str.2 ⟨_,rfl,rep_sl.2 ⟨_,_,rfl,(HS_4.out.f [w.heap.size,w.heap.size+1]),rep_int.2 ⟨_,rfl,rep_sl.2 ⟨_,_,rfl,RowV.nil _ _ _ _,rep_int.2 ⟨_,rfl,rep_nil.2 rfl⟩⟩⟩⟩⟩⟩⟩⟩)⟩
   ·skip
    obtain⟨hT,HB3,HI3,HF3,hz3⟩:=IR.st [w.heap.size] HBr.out HFr.out hf hi
    try simp at hz3
    have HD3:=hid (HDr.out.k hf)
    clear hT hf hi
    have hlD:=HD3.out.lt
    go_wp2_with fail
    clear hlD
    refine(rnext_q c s [58,58] _ (by exact HI3.out.f [w.heap.size] H.out)).mono ?_
    rintro e w5 (⟨s5,hq5,hl5,rfl,hf,hi⟩|⟨hq5,rfl,hf,hi⟩)
    ·skip
     obtain⟨hT,HB5,HI5,HF5,hz5⟩:=IR.st [w.heap.size] HB3.out HF3.out hf hi
     try simp at hz5
     have HD5:=hid (HD3.out.k hf)
     clear hT hf hi
     have hlD:=HD5.out.lt
     obtain⟨d0,f0⟩:=HD5.out.df 0 (v:=.int .i64 0) rfl
     obtain⟨d2,f2⟩:=HD5.out.df 2 (v:=.string ⟨#[]⟩) rfl
     go_wp2_with fail
     clear hlD d0 f0 d2 f2
     refine(rname_any c s5 _ (by exact HI5.out.f [w.heap.size] H.out)).mono ?_
     rintro e w6 ⟨_,x6,s6,rfl,hq6,hf,hi,rfl⟩
     obtain⟨hT,HB6,HI6,HF6,hz6⟩:=IR.st [w.heap.size] HB5.out HF5.out hf hi
     try simp at hz6
     have HD6:Hid (Blk w6 (w.heap.size) 49 #[.int .i64 16,zS,.string ⟨x.toArray⟩,zS,zN,zI,zN,.int .i64 o]):=hid (((HD5.out.set 0 (.int .i64 16)).set 2 (.string ⟨x.toArray⟩)).k hf)
     have hl6:=hq6.out.mu Shr.name
     clear hT hf hi
     have hlD:=HD6.out.lt
     obtain⟨d4,f4⟩:=HD6.out.df 4 (v:=.slice none 0 0) rfl
     go_wp2_with (first|(refine wpList_load_row rfl 49 _ rfl (w.heap.size) rfl 49 #[.int .i64 16,.string ⟨#[]⟩,.string ⟨x.toArray⟩,.string ⟨#[]⟩,.slice (some ⟨w6.heap.size,0,none⟩) 1 1,.int .i64 0,.slice none 0 0,.int .i64 o] (0,0) _ (Blk.alloc (HD6.out.set 4 (.slice (some ⟨w6.heap.size,0,none⟩) 1 1)) _) Tryz.underlying49 rfl rexpr_size ?_)|(refine wpList_store_row rfl 49 _ _ rfl (w.heap.size+1) _ rfl rfl 49 _ (HB6.out.row [w.heap.size]) rexpr_size rfl (by simp[Value.oneCell']) ?_))
     refine bodyPost_ret (results_cell_row (p:=6) rfl _ _ (w.heap.size+1) 49 _ (0,0) _ rfl (setRow_heap _ _ _ _ _ _ (HB6.out.row [w.heap.size])) Tryz.underlying49 rfl rexpr_size) rfl ?_
     clear hlD d4 f4
     exact RD.mk (⟨16,[],x,[],[x6],0,[],o⟩) s6 (by refine Rel.bind (p:=Px.afterName x) (a:={ Px.expr0 with kind:=16,name:=x,names:=[x6],num:=0 }) ?_ (Rel.pure _ _);exact rel_after_no HNO.out (rel_refN_colon hq3.out hq5.out hq6.out)) (HF6.out.jf [w.heap.size,w.heap.size+1]) (HI6.out.f [w.heap.size,w.heap.size+1] H.out) ⟨_,rfl,(by unfold exprQ strsQ typesS;exact rep_int.2 ⟨_,rfl,rep_str.2 ⟨_,rfl,rep_str.2 ⟨_,rfl,rep_str.2 ⟨_,rfl,rep_sl.2 ⟨_,_,rfl,(strs_rowk (N:=(fun k=>w.heap.size≤k)) (l:=[x6]) (g:=w6.heap.size) (show Blk _ _ _ #[.string ⟨x6.toArray⟩] from (by repeat' (first|with_reducible refine Blk.new_at ?_|with_reducible refine Blk.alloc ?_ _|with_reducible refine Blk.other ?_ ?_ _|with_reducible refine Blk.setRow_other ?_ ?_|(simp;done)|(simp;omega)))) (by (try simp);omega) (by simp) (by simp)),rep_int.2 ⟨_,rfl,rep_sl.2 ⟨_,_,rfl,RowV.nil _ _ _ _,rep_int.2 ⟨_,rfl,rep_nil.2 rfl⟩⟩⟩⟩⟩⟩⟩⟩)⟩
    ·skip
     obtain⟨hT,HB5,HI5,HF5,hz5⟩:=IR.st [w.heap.size] HB3.out HF3.out hf hi
     try simp at hz5
     have HD5:=hid (HD3.out.k hf)
     clear hT hf hi
     have hlD:=HD5.out.lt
     go_wp2_with fail
     clear hlD
     refine(ris_q c s [40] _ (by exact HI5.out.f [w.heap.size] H.out)).mono ?_
     rintro e w7 (⟨hx7,hm7,rfl,hf,hi⟩|⟨hq7,rfl,hf,hi⟩)
     ·skip
      obtain⟨hT,HB7,HI7,HF7,hz7⟩:=IR.st [w.heap.size] HB5.out HF5.out hf hi
      try simp at hz7
      have HD7:=hid (HD5.out.k hf)
      clear hT hf hi
      have hlD:=HD7.out.lt
      obtain⟨d0,f0⟩:=HD7.out.df 0 (v:=.int .i64 0) rfl
      obtain⟨d2,f2⟩:=HD7.out.df 2 (v:=.string ⟨#[]⟩) rfl
      go_wp2_with fail
      clear hlD d0 f0 d2 f2
      refine(rpassed_any c s _ (by exact HI7.out.f [w.heap.size] H.out)).mono ?_
      rintro e w8 ⟨v8,x8,s8,rfl,hq8,hf,hi,hv⟩
      obtain⟨p8,n8,k8,rfl⟩:=row_shp hv
      have hV8:=(row_of hv).k (N':=(fun k=>w.heap.size≤k∧k≠w.heap.size+1∧k≠w.heap.size)) (Fr.refl [] _)
      obtain⟨hT,HB8,HI8,HF8,hz8⟩:=IR.st [w.heap.size] HB7.out HF7.out hf hi
      try simp at hz8
      have HD8:Hid (Blk w8 (w.heap.size) 49 #[.int .i64 15,zS,.string ⟨x.toArray⟩,zS,zN,zI,zN,.int .i64 o]):=hid (((HD7.out.set 0 (.int .i64 15)).set 2 (.string ⟨x.toArray⟩)).k hf)
      have HV8:=hid hV8
      clear hT hf hi hV8 hv
      have hlD:=HD8.out.lt
      obtain⟨d4,f4⟩:=HD8.out.df 4 (v:=.slice none 0 0) rfl
      go_wp2_with (first|(refine wpList_load_row rfl 49 _ rfl (w.heap.size) rfl 49 #[.int .i64 15,.string ⟨#[]⟩,.string ⟨x.toArray⟩,.string ⟨#[]⟩,.slice p8 n8 k8,.int .i64 0,.slice none 0 0,.int .i64 o] (0,0) _ (HD8.out.set 4 (.slice p8 n8 k8)) Tryz.underlying49 rfl rexpr_size ?_)|(refine wpList_store_row rfl 49 _ _ rfl (w.heap.size+1) _ rfl rfl 49 _ (HB8.out.row [w.heap.size]) rexpr_size rfl (by simp[Value.oneCell']) ?_))
      refine bodyPost_ret (results_cell_row (p:=6) rfl _ _ (w.heap.size+1) 49 _ (0,0) _ rfl (setRow_heap _ _ _ _ _ _ (HB8.out.row [w.heap.size])) Tryz.underlying49 rfl rexpr_size) rfl ?_
      clear hlD d4 f4
      exact RD.mk (⟨15,[],x,[],x8,0,[],o⟩) s8 (by refine Rel.bind (p:=Px.afterName x) (a:={ Px.expr0 with kind:=15,name:=x,names:=x8,num:=0 }) ?_ (Rel.pure _ _);exact rel_after_no HNO.out (rel_refN_call hq3.out hq5.out hx7.out hq8.out)) (HF8.out.jf [w.heap.size,w.heap.size+1]) (HI8.out.f [w.heap.size,w.heap.size+1] H.out) ⟨_,rfl,(by unfold exprQ strsQ typesS;exact rep_int.2 ⟨_,rfl,rep_str.2 ⟨_,rfl,rep_str.2 ⟨_,rfl,rep_str.2 ⟨_,rfl,rep_sl.2 ⟨_,_,rfl,(HV8.out.f [w.heap.size,w.heap.size+1]),rep_int.2 ⟨_,rfl,rep_sl.2 ⟨_,_,rfl,RowV.nil _ _ _ _,rep_int.2 ⟨_,rfl,rep_nil.2 rfl⟩⟩⟩⟩⟩⟩⟩⟩)⟩
     ·skip
      obtain⟨hT,HB7,HI7,HF7,hz7⟩:=IR.st [w.heap.size] HB5.out HF5.out hf hi
      try simp at hz7
      have HD7:=hid (HD5.out.k hf)
      clear hT hf hi
      have hlD:=HD7.out.lt
      obtain⟨d0,f0⟩:=HD7.out.df 0 (v:=.int .i64 0) rfl
      obtain⟨d4,f4⟩:=HD7.out.df 4 (v:=.slice none 0 0) rfl
      go_wp2_with (first|(refine wpList_load_row rfl 49 _ rfl (w.heap.size) rfl 49 #[.int .i64 2,.string ⟨#[]⟩,.string ⟨#[]⟩,.string ⟨#[]⟩,.slice (some ⟨w7.heap.size,0,none⟩) 1 1,.int .i64 0,.slice none 0 0,.int .i64 o] (0,0) _ (Blk.alloc ((HD7.out.set 0 (.int .i64 2)).set 4 (.slice (some ⟨w7.heap.size,0,none⟩) 1 1)) _) Tryz.underlying49 rfl rexpr_size ?_)|(refine wpList_store_row rfl 49 _ _ rfl (w.heap.size+1) _ rfl rfl 49 _ (HB7.out.row [w.heap.size]) rexpr_size rfl (by simp[Value.oneCell']) ?_))
      refine bodyPost_ret (results_cell_row (p:=6) rfl _ _ (w.heap.size+1) 49 _ (0,0) _ rfl (setRow_heap _ _ _ _ _ _ (HB7.out.row [w.heap.size])) Tryz.underlying49 rfl rexpr_size) rfl ?_
      clear hlD d0 f0 d4 f4
      exact RD.mk (⟨2,[],[],[],[x],0,[],o⟩) s (by refine Rel.bind (p:=Px.afterName x) (a:={ Px.expr0 with kind:=2,name:=[],names:=[x],num:=0 }) ?_ (Rel.pure _ _);exact rel_after_no HNO.out (rel_refN_name hq3.out hq5.out hq7.out)) (HF7.out.jf [w.heap.size,w.heap.size+1]) (HI7.out.f [w.heap.size,w.heap.size+1] H.out) ⟨_,rfl,(by unfold exprQ strsQ typesS;exact rep_int.2 ⟨_,rfl,rep_str.2 ⟨_,rfl,rep_str.2 ⟨_,rfl,rep_str.2 ⟨_,rfl,rep_sl.2 ⟨_,_,rfl,(strs_rowk (N:=(fun k=>w.heap.size≤k)) (l:=[x]) (g:=w7.heap.size) (show Blk _ _ _ #[.string ⟨x.toArray⟩] from (by repeat' (first|with_reducible refine Blk.new_at ?_|with_reducible refine Blk.alloc ?_ _|with_reducible refine Blk.other ?_ ?_ _|with_reducible refine Blk.setRow_other ?_ ?_|(simp;done)|(simp;omega)))) (by (try simp);omega) (by simp) (by simp)),rep_int.2 ⟨_,rfl,rep_sl.2 ⟨_,_,rfl,RowV.nil _ _ _ _,rep_int.2 ⟨_,rfl,rep_nil.2 rfl⟩⟩⟩⟩⟩⟩⟩⟩)⟩
end Go.Proofs.YtghohohagbbajaaGreatDoor
