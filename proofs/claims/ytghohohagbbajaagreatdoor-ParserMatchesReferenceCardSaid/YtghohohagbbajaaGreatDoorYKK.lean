/- part of the proof -/
import Derived.Test.YtghohohagbbajaaGreatDoorYKC
import Derived.Test.YtghohohagbbajaaGreatDoorYKJ
set_option linter.unusedVariables false
set_option linter.unusedSimpArgs false
set_option linter.unusedSectionVars false
namespace Go.Proofs.YtghohohagbbajaaGreatDoor
open Go.RowKit Go.Lib
open Lx (Tk)
open Px (Txt TyE VarD DataD TraitD BoundD ImplD ArgD ExprD StmtD ArmD FuncD ModD)
set_option maxRecDepth 100000 in
set_option maxHeartbeats 6400000 in
theorem rstmt_send (c:RCtx) (t:Tk) (r:List Tk) (w:World) (h:IR c (RS.live (t :: r)) w) (ht:t.text=[115,101,110,100]) (n m:Nat) (hst:RL c 99 (RS.mu (RS.live (t :: r))) (okAgg stmtQ) (Px.stmtF c.size n m)) (hm:(RS.mu (RS.live (t :: r)))≤n) :
  Calls Tryz.prog 99 #[.pointer (some ⟨c.R,0,none⟩)] w (RD c w (okAgg stmtQ) (do let o ← Px.offsetR c.size;refS c.size n m o) (RS.live (t :: r))):=by
 have HST:=hid hst
 clear hst
 have H:=hid h
 have HR0:=H.out.lt.1
 clear h
 go_enter Tryz.func99,Tryz.ntmps99
 go_wp2_with fail
 refine(rat_same c (RS.live (t :: r)) _ (by exact H.out.f [] H.out)).mono ?_
 rintro e w1 hp
 obtain⟨x1,rfl,hq1,hf,hi⟩:=hp
 have hT:Fr [c.R] w w1:=Fr.trans frk hf.wide
 have hz1:=hf.size;try simp at hz1
 have HB1:Hid (Blk w1 (w.heap.size) 52 #[zI,zS,zN,zN,zI,zS,zS,zS,zN,zI,zN,zI,zN,zN,zN,zN,zI]):=hid ((Blk.new w _ _).keep hf (by first|(simp;done)|omega|(simp;omega)))
 have HI1:=hid hi
 have HF1:=hid ((Fr.refl [c.R] w).j hT)
 clear hT hf hi
 have hneDB:w1.heap.size≠w.heap.size:=by omega
 have hneBD:=hneDB.symm
 go_wp2_with (refine wpList_store_row rfl 52 _ _ rfl (w1.heap.size) #[.int .i64 0,.string ⟨#[]⟩,.slice none 0 0,.slice none 0 0,.int .i64 0,.string ⟨#[]⟩,.string ⟨#[]⟩,.string ⟨#[]⟩,.slice none 0 0,.int .i64 0,.slice none 0 0,.int .i64 0,.slice none 0 0,.slice none 0 0,.slice none 0 0,.slice none 0 0,.int .i64 x1] rfl rfl 52 _ (Blk.new_at (by simp)) rstmt_size rfl (by simp[Value.oneCell']) ?_)
 refine(rnext_no c (RS.live (t :: r)) [108,101,116] _ (by exact HI1.out.f [w1.heap.size] H.out) (by decide) (by decide) (fun ts e=>by cases e;rw[show Px.word (t :: r)=_ from ht];decide)).mono ?_
 rintro e wj0 ⟨rfl,hf,hi⟩
 have HG0:=hid hf
 have HJ0:=hid hi
 clear hf hi
 go_wp2_with fail
 refine(rnext_no c (RS.live (t :: r)) [42] _ HJ0.out (by decide) (by decide) (fun ts e=>by cases e;rw[show Px.word (t :: r)=_ from ht];decide)).mono ?_
 rintro e wj1 ⟨rfl,hf,hi⟩
 have HG1:=hid (HG0.out.trans hf)
 have HJ1:=hid hi
 clear hf hi
 go_wp2_with fail
 refine(rnext_no c (RS.live (t :: r)) [105,102] _ HJ1.out (by decide) (by decide) (fun ts e=>by cases e;rw[show Px.word (t :: r)=_ from ht];decide)).mono ?_
 rintro e wj2 ⟨rfl,hf,hi⟩
 have HG2:=hid (HG1.out.trans hf)
 have HJ2:=hid hi
 clear hf hi
 go_wp2_with fail
 refine(rnext_no c (RS.live (t :: r)) [119,104,105,108,101] _ HJ2.out (by decide) (by decide) (fun ts e=>by cases e;rw[show Px.word (t :: r)=_ from ht];decide)).mono ?_
 rintro e wj3 ⟨rfl,hf,hi⟩
 have HG3:=hid (HG2.out.trans hf)
 have HJ3:=hid hi
 clear hf hi
 go_wp2_with fail
 refine(rnext_no c (RS.live (t :: r)) [109,97,116,99,104] _ HJ3.out (by decide) (by decide) (fun ts e=>by cases e;rw[show Px.word (t :: r)=_ from ht];decide)).mono ?_
 rintro e wj4 ⟨rfl,hf,hi⟩
 have HG4:=hid (HG3.out.trans hf)
 have HJ4:=hid hi
 clear hf hi
 go_wp2_with fail
 refine(rnext_no c (RS.live (t :: r)) [114,101,116,117,114,110] _ HJ4.out (by decide) (by decide) (fun ts e=>by cases e;rw[show Px.word (t :: r)=_ from ht];decide)).mono ?_
 rintro e wj5 ⟨rfl,hf,hi⟩
 have HG5:=hid (HG4.out.trans hf)
 have HJ5:=hid hi
 clear hf hi
 go_wp2_with fail
 refine(rnext_no c (RS.live (t :: r)) [112,97,110,105,99] _ HJ5.out (by decide) (by decide) (fun ts e=>by cases e;rw[show Px.word (t :: r)=_ from ht];decide)).mono ?_
 rintro e wj6 ⟨rfl,hf,hi⟩
 have HG6:=hid (HG5.out.trans hf)
 have HJ6:=hid hi
 clear hf hi
 go_wp2_with fail
 refine(rnext_no c (RS.live (t :: r)) [100,114,111,112] _ HJ6.out (by decide) (by decide) (fun ts e=>by cases e;rw[show Px.word (t :: r)=_ from ht];decide)).mono ?_
 rintro e wj7 ⟨rfl,hf,hi⟩
 have HG7:=hid (HG6.out.trans hf)
 have HJ7:=hid hi
 clear hf hi
 go_wp2_with fail
 refine(rnext_no c (RS.live (t :: r)) [112,114,105,110,116] _ HJ7.out (by decide) (by decide) (fun ts e=>by cases e;rw[show Px.word (t :: r)=_ from ht];decide)).mono ?_
 rintro e wj8 ⟨rfl,hf,hi⟩
 have HG8:=hid (HG7.out.trans hf)
 have HJ8:=hid hi
 clear hf hi
 go_wp2_with fail
 refine(rnext_yes c t r [115,101,110,100] _ HJ8.out ht (by decide) (by decide)).mono ?_
 rintro e w2 ⟨rfl,hf0,hi⟩
 have hf:=HG8.out.trans hf0
 obtain⟨hT,HB2,HI2,HF2,hz2⟩:=IR.st [w1.heap.size] HB1.out HF1.out hf hi
 try simp at hz2
 have HD2:Hid (Blk w2 (w1.heap.size) 52 #[zI,zS,zN,zN,zI,zS,zS,zS,zN,zI,zN,zI,zN,zN,zN,zN,.int .i64 x1]):=hid ((show Blk _ (w1.heap.size) 52 #[zI,zS,zN,zN,zI,zS,zS,zS,zN,zI,zN,zI,zN,zN,zN,zN,.int .i64 x1] from setRow_heap _ _ _ _ _ _ (Blk.new_at (by simp))).k hf)
 clear hT hf hi hf0
 have hlr:(RS.live r).mu<(RS.live (t :: r)).mu:=by simp[RS.mu]
 have hlD:=HD2.out.lt
 obtain⟨d0,f0⟩:=HD2.out.df 0 (v:=.int .i64 0) rfl
 go_wp2_with fail
 clear hlD d0 f0
 refine(rname_any c (RS.live r) _ (by exact HI2.out.f [w1.heap.size] H.out)).mono ?_
 rintro e w3 ⟨_,x3,s3,rfl,hq3,hf,hi,rfl⟩
 obtain⟨hT,HB3,HI3,HF3,hz3⟩:=IR.st [w1.heap.size] HB2.out HF2.out hf hi
 try simp at hz3
 have HD3:Hid (Blk w3 (w1.heap.size) 52 #[.int .i64 11,zS,zN,zN,zI,zS,zS,zS,zN,zI,zN,zI,zN,zN,zN,zN,.int .i64 x1]):=hid ((HD2.out.set 0 (.int .i64 11)).k hf)
 have hl3:=hq3.out.mu Shr.name
 clear hT hf hi
 have hlD:=HD3.out.lt
 obtain⟨d1,f1⟩:=HD3.out.df 1 (v:=.string ⟨#[]⟩) rfl
 go_wp2_with fail
 clear hlD d1 f1
 refine(rname_any c s3 _ (by exact HI3.out.f [w1.heap.size] H.out)).mono ?_
 rintro e w4 ⟨_,x4,s4,rfl,hq4,hf,hi,rfl⟩
 obtain⟨hT,HB4,HI4,HF4,hz4⟩:=IR.st [w1.heap.size] HB3.out HF3.out hf hi
 try simp at hz4
 have HD4:Hid (Blk w4 (w1.heap.size) 52 #[.int .i64 11,.string ⟨x3.toArray⟩,zN,zN,zI,zS,zS,zS,zN,zI,zN,zI,zN,zN,zN,zN,.int .i64 x1]):=hid ((HD3.out.set 1 (.string ⟨x3.toArray⟩)).k hf)
 have hl4:=hq4.out.mu Shr.name
 clear hT hf hi
 have hlD:=HD4.out.lt
 obtain⟨d2,f2⟩:=HD4.out.df 2 (v:=.slice none 0 0) rfl
 go_wp2_with fail
 clear hlD d2 f2
 refine(rneed_q c s4 [59] _ (by exact HI4.out.f [w1.heap.size] H.out)).mono ?_
 rintro e w5 ⟨rfl,x5,s5,hq5,hf,hi⟩
 obtain⟨hT,HB5,HI5,HF5,hz5⟩:=IR.st [w1.heap.size] HB4.out HF4.out hf hi
 try simp at hz5
 have HD5:Hid (Blk w5 (w1.heap.size) 52 #[.int .i64 11,.string ⟨x3.toArray⟩,.slice (some ⟨w4.heap.size,0,none⟩) 1 1,zN,zI,zS,zS,zS,zN,zI,zN,zI,zN,zN,zN,zN,.int .i64 x1]):=hid ((Blk.alloc (HD4.out.set 2 (.slice (some ⟨w4.heap.size,0,none⟩) 1 1)) _).k hf)
 have hN:Blk w5 (w4.heap.size) 9 #[.string ⟨x4.toArray⟩]:=Blk.keep (by repeat' (first|with_reducible refine Blk.new_at ?_|with_reducible refine Blk.alloc ?_ _|with_reducible refine Blk.other ?_ ?_ _|with_reducible refine Blk.setRow_other ?_ ?_|(simp;done)|(simp;omega))) hf (by simp;omega)
 have hNr:=strs_rowk (N:=(fun k=>w.heap.size≤k∧k≠w.heap.size∧k≠w1.heap.size)) (l:=[x4]) hN (by (try simp);omega) (by simp) (by simp)
 have HS_5:=hid hNr
 clear hN hNr
 have hl5:=hq5.out.mu (Shr.expect _)
 clear hT hf hi
 have hlD:=HD5.out.lt
 go_wp2_with (first|(refine wpList_load_row rfl 52 _ rfl (w1.heap.size) rfl 52 _ (0,0) _ HD5.out Tryz.underlying52 rfl rstmt_size ?_)|(refine wpList_store_row rfl 52 _ _ rfl (w.heap.size) _ rfl rfl 52 _ (HB5.out.row [w1.heap.size]) rstmt_size rfl (by simp[Value.oneCell']) ?_))
 refine bodyPost_ret (results_cell_row (p:=2) rfl _ _ (w.heap.size) 52 _ (0,0) _ rfl (setRow_heap _ _ _ _ _ _ (HB5.out.row [w1.heap.size])) Tryz.underlying52 rfl rstmt_size) rfl ?_
 clear hlD
 exact RD.mk (.mk 11 x3 [x4] [] Px.expr0 [] [] [] [] x1) s5 (by refine Rel.bind hq1.out ?_;unfold refS;refine Rel.bn (no_word (fun ts e=>by cases e;rw[show Px.word (t :: r)=_ from ht];decide)) ?_;refine Rel.bn (no_word (fun ts e=>by cases e;rw[show Px.word (t :: r)=_ from ht];decide)) ?_;refine Rel.bn (no_word (fun ts e=>by cases e;rw[show Px.word (t :: r)=_ from ht];decide)) ?_;refine Rel.bn (no_word (fun ts e=>by cases e;rw[show Px.word (t :: r)=_ from ht];decide)) ?_;refine Rel.bn (no_word (fun ts e=>by cases e;rw[show Px.word (t :: r)=_ from ht];decide)) ?_;refine Rel.bn (no_word (fun ts e=>by cases e;rw[show Px.word (t :: r)=_ from ht];decide)) ?_;refine Rel.bn (no_word (fun ts e=>by cases e;rw[show Px.word (t :: r)=_ from ht];decide)) ?_;refine Rel.bn (no_word (fun ts e=>by cases e;rw[show Px.word (t :: r)=_ from ht];decide)) ?_;refine Rel.bn (no_word (fun ts e=>by cases e;rw[show Px.word (t :: r)=_ from ht];decide)) ?_;refine Rel.by (Rel.take_true (show ([[115,101,110,100]]:List Txt).contains t.text=true by rw[ht];decide)) ?_;unfold Px.sendS;refine .bind hq3.out<|.bind hq4.out<|.bind hq5.out ?_;exact Rel.pure _ _) (HF5.out.jf [w1.heap.size,w.heap.size]) (HI5.out.f [w1.heap.size,w.heap.size] H.out) ⟨_,rfl,(by rw[stmtQ_mk];unfold strsQ typesS stmtsS armsS funcsS;exact rep_int.2 ⟨_,rfl,rep_str.2 ⟨_,rfl,rep_sl.2 ⟨_,_,rfl,(HS_5.out.f [w1.heap.size,w.heap.size]),rep_sl.2 ⟨_,_,rfl,RowV.nil _ _ _ _,Rep.app (cs:=[.int .i64 0,.string ⟨#[]⟩,.string ⟨#[]⟩,.string ⟨#[]⟩,.slice none 0 0,.int .i64 0,.slice none 0 0,.int .i64 0]) (expr0_rep) (rep_sl.2 ⟨_,_,rfl,RowV.nil _ _ _ _,rep_sl.2 ⟨_,_,rfl,RowV.nil _ _ _ _,rep_sl.2 ⟨_,_,rfl,RowV.nil _ _ _ _,rep_sl.2 ⟨_,_,rfl,RowV.nil _ _ _ _,rep_int.2 ⟨_,rfl,rep_nil.2 rfl⟩⟩⟩⟩⟩)⟩⟩⟩⟩)⟩
set_option maxRecDepth 100000 in
set_option maxHeartbeats 6400000 in
theorem rstmt_spawn (c:RCtx) (t:Tk) (r:List Tk) (w:World) (h:IR c (RS.live (t :: r)) w) (ht:t.text=[115,112,97,119,110]) (n m:Nat) (hst:RL c 99 (RS.mu (RS.live (t :: r))) (okAgg stmtQ) (Px.stmtF c.size n m)) (hm:(RS.mu (RS.live (t :: r)))≤n) :
  Calls Tryz.prog 99 #[.pointer (some ⟨c.R,0,none⟩)] w (RD c w (okAgg stmtQ) (do let o ← Px.offsetR c.size;refS c.size n m o) (RS.live (t :: r))):=by
 have HST:=hid hst
 clear hst
 have H:=hid h
 have HR0:=H.out.lt.1
 clear h
 go_enter Tryz.func99,Tryz.ntmps99
 go_wp2_with fail
 refine(rat_same c (RS.live (t :: r)) _ (by exact H.out.f [] H.out)).mono ?_
 rintro e w1 hp
 obtain⟨x1,rfl,hq1,hf,hi⟩:=hp
 have hT:Fr [c.R] w w1:=Fr.trans frk hf.wide
 have hz1:=hf.size;try simp at hz1
 have HB1:Hid (Blk w1 (w.heap.size) 52 #[zI,zS,zN,zN,zI,zS,zS,zS,zN,zI,zN,zI,zN,zN,zN,zN,zI]):=hid ((Blk.new w _ _).keep hf (by first|(simp;done)|omega|(simp;omega)))
 have HI1:=hid hi
 have HF1:=hid ((Fr.refl [c.R] w).j hT)
 clear hT hf hi
 have hneDB:w1.heap.size≠w.heap.size:=by omega
 have hneBD:=hneDB.symm
 go_wp2_with (refine wpList_store_row rfl 52 _ _ rfl (w1.heap.size) #[.int .i64 0,.string ⟨#[]⟩,.slice none 0 0,.slice none 0 0,.int .i64 0,.string ⟨#[]⟩,.string ⟨#[]⟩,.string ⟨#[]⟩,.slice none 0 0,.int .i64 0,.slice none 0 0,.int .i64 0,.slice none 0 0,.slice none 0 0,.slice none 0 0,.slice none 0 0,.int .i64 x1] rfl rfl 52 _ (Blk.new_at (by simp)) rstmt_size rfl (by simp[Value.oneCell']) ?_)
 refine(rnext_no c (RS.live (t :: r)) [108,101,116] _ (by exact HI1.out.f [w1.heap.size] H.out) (by decide) (by decide) (fun ts e=>by cases e;rw[show Px.word (t :: r)=_ from ht];decide)).mono ?_
 rintro e wj0 ⟨rfl,hf,hi⟩
 have HG0:=hid hf
 have HJ0:=hid hi
 clear hf hi
 go_wp2_with fail
 refine(rnext_no c (RS.live (t :: r)) [42] _ HJ0.out (by decide) (by decide) (fun ts e=>by cases e;rw[show Px.word (t :: r)=_ from ht];decide)).mono ?_
 rintro e wj1 ⟨rfl,hf,hi⟩
 have HG1:=hid (HG0.out.trans hf)
 have HJ1:=hid hi
 clear hf hi
 go_wp2_with fail
 refine(rnext_no c (RS.live (t :: r)) [105,102] _ HJ1.out (by decide) (by decide) (fun ts e=>by cases e;rw[show Px.word (t :: r)=_ from ht];decide)).mono ?_
 rintro e wj2 ⟨rfl,hf,hi⟩
 have HG2:=hid (HG1.out.trans hf)
 have HJ2:=hid hi
 clear hf hi
 go_wp2_with fail
 refine(rnext_no c (RS.live (t :: r)) [119,104,105,108,101] _ HJ2.out (by decide) (by decide) (fun ts e=>by cases e;rw[show Px.word (t :: r)=_ from ht];decide)).mono ?_
 rintro e wj3 ⟨rfl,hf,hi⟩
 have HG3:=hid (HG2.out.trans hf)
 have HJ3:=hid hi
 clear hf hi
 go_wp2_with fail
 refine(rnext_no c (RS.live (t :: r)) [109,97,116,99,104] _ HJ3.out (by decide) (by decide) (fun ts e=>by cases e;rw[show Px.word (t :: r)=_ from ht];decide)).mono ?_
 rintro e wj4 ⟨rfl,hf,hi⟩
 have HG4:=hid (HG3.out.trans hf)
 have HJ4:=hid hi
 clear hf hi
 go_wp2_with fail
 refine(rnext_no c (RS.live (t :: r)) [114,101,116,117,114,110] _ HJ4.out (by decide) (by decide) (fun ts e=>by cases e;rw[show Px.word (t :: r)=_ from ht];decide)).mono ?_
 rintro e wj5 ⟨rfl,hf,hi⟩
 have HG5:=hid (HG4.out.trans hf)
 have HJ5:=hid hi
 clear hf hi
 go_wp2_with fail
 refine(rnext_no c (RS.live (t :: r)) [112,97,110,105,99] _ HJ5.out (by decide) (by decide) (fun ts e=>by cases e;rw[show Px.word (t :: r)=_ from ht];decide)).mono ?_
 rintro e wj6 ⟨rfl,hf,hi⟩
 have HG6:=hid (HG5.out.trans hf)
 have HJ6:=hid hi
 clear hf hi
 go_wp2_with fail
 refine(rnext_no c (RS.live (t :: r)) [100,114,111,112] _ HJ6.out (by decide) (by decide) (fun ts e=>by cases e;rw[show Px.word (t :: r)=_ from ht];decide)).mono ?_
 rintro e wj7 ⟨rfl,hf,hi⟩
 have HG7:=hid (HG6.out.trans hf)
 have HJ7:=hid hi
 clear hf hi
 go_wp2_with fail
 refine(rnext_no c (RS.live (t :: r)) [112,114,105,110,116] _ HJ7.out (by decide) (by decide) (fun ts e=>by cases e;rw[show Px.word (t :: r)=_ from ht];decide)).mono ?_
 rintro e wj8 ⟨rfl,hf,hi⟩
 have HG8:=hid (HG7.out.trans hf)
 have HJ8:=hid hi
 clear hf hi
 go_wp2_with fail
 refine(rnext_no c (RS.live (t :: r)) [115,101,110,100] _ HJ8.out (by decide) (by decide) (fun ts e=>by cases e;rw[show Px.word (t :: r)=_ from ht];decide)).mono ?_
 rintro e wj9 ⟨rfl,hf,hi⟩
 have HG9:=hid (HG8.out.trans hf)
 have HJ9:=hid hi
 clear hf hi
 go_wp2_with fail
 refine(rnext_yes c t r [115,112,97,119,110] _ HJ9.out ht (by decide) (by decide)).mono ?_
 rintro e w2 ⟨rfl,hf0,hi⟩
 have hf:=HG9.out.trans hf0
 obtain⟨hT,HB2,HI2,HF2,hz2⟩:=IR.st [w1.heap.size] HB1.out HF1.out hf hi
 try simp at hz2
 have HD2:Hid (Blk w2 (w1.heap.size) 52 #[zI,zS,zN,zN,zI,zS,zS,zS,zN,zI,zN,zI,zN,zN,zN,zN,.int .i64 x1]):=hid ((show Blk _ (w1.heap.size) 52 #[zI,zS,zN,zN,zI,zS,zS,zS,zN,zI,zN,zI,zN,zN,zN,zN,.int .i64 x1] from setRow_heap _ _ _ _ _ _ (Blk.new_at (by simp))).k hf)
 clear hT hf hi hf0
 have hlr:(RS.live r).mu<(RS.live (t :: r)).mu:=by simp[RS.mu]
 have hlD:=HD2.out.lt
 obtain⟨d0,f0⟩:=HD2.out.df 0 (v:=.int .i64 0) rfl
 go_wp2_with fail
 clear hlD d0 f0
 refine(rname_any c (RS.live r) _ (by exact HI2.out.f [w1.heap.size] H.out)).mono ?_
 rintro e w3 ⟨_,x3,s3,rfl,hq3,hf,hi,rfl⟩
 obtain⟨hT,HB3,HI3,HF3,hz3⟩:=IR.st [w1.heap.size] HB2.out HF2.out hf hi
 try simp at hz3
 have HD3:Hid (Blk w3 (w1.heap.size) 52 #[.int .i64 12,zS,zN,zN,zI,zS,zS,zS,zN,zI,zN,zI,zN,zN,zN,zN,.int .i64 x1]):=hid ((HD2.out.set 0 (.int .i64 12)).k hf)
 have hl3:=hq3.out.mu Shr.name
 clear hT hf hi
 have hlD:=HD3.out.lt
 obtain⟨d1,f1⟩:=HD3.out.df 1 (v:=.string ⟨#[]⟩) rfl
 go_wp2_with fail
 clear hlD d1 f1
 refine(rpassed_any c s3 _ (by exact HI3.out.f [w1.heap.size] H.out)).mono ?_
 rintro e w4 ⟨v4,x4,s4,rfl,hq4,hf,hi,hv⟩
 obtain⟨p4,n4,k4,rfl⟩:=row_shp hv
 have hV4:=(row_of hv).k (N':=(fun k=>w.heap.size≤k∧k≠w.heap.size∧k≠w1.heap.size)) (Fr.refl [] _)
 obtain⟨hT,HB4,HI4,HF4,hz4⟩:=IR.st [w1.heap.size] HB3.out HF3.out hf hi
 try simp at hz4
 have HD4:Hid (Blk w4 (w1.heap.size) 52 #[.int .i64 12,.string ⟨x3.toArray⟩,zN,zN,zI,zS,zS,zS,zN,zI,zN,zI,zN,zN,zN,zN,.int .i64 x1]):=hid ((HD3.out.set 1 (.string ⟨x3.toArray⟩)).k hf)
 have HV4:=hid hV4
 clear hT hf hi hV4 hv
 have hlD:=HD4.out.lt
 obtain⟨d2,f2⟩:=HD4.out.df 2 (v:=.slice none 0 0) rfl
 go_wp2_with fail
 clear hlD d2 f2
 refine(rneed_q c s4 [59] _ (by exact HI4.out.f [w1.heap.size] H.out)).mono ?_
 rintro e w5 ⟨rfl,x5,s5,hq5,hf,hi⟩
 obtain⟨hT,HB5,HI5,HF5,hz5⟩:=IR.st [w1.heap.size] HB4.out HF4.out hf hi
 try simp at hz5
 have HD5:Hid (Blk w5 (w1.heap.size) 52 #[.int .i64 12,.string ⟨x3.toArray⟩,.slice p4 n4 k4,zN,zI,zS,zS,zS,zN,zI,zN,zI,zN,zN,zN,zN,.int .i64 x1]):=hid ((HD4.out.set 2 (.slice p4 n4 k4)).k hf)
 have HV4_5:=hid (HV4.out.ks hT)
 have hl5:=hq5.out.mu (Shr.expect _)
 clear hT hf hi
 have hlD:=HD5.out.lt
 go_wp2_with (first|(refine wpList_load_row rfl 52 _ rfl (w1.heap.size) rfl 52 _ (0,0) _ HD5.out Tryz.underlying52 rfl rstmt_size ?_)|(refine wpList_store_row rfl 52 _ _ rfl (w.heap.size) _ rfl rfl 52 _ (HB5.out.row [w1.heap.size]) rstmt_size rfl (by simp[Value.oneCell']) ?_))
 refine bodyPost_ret (results_cell_row (p:=2) rfl _ _ (w.heap.size) 52 _ (0,0) _ rfl (setRow_heap _ _ _ _ _ _ (HB5.out.row [w1.heap.size])) Tryz.underlying52 rfl rstmt_size) rfl ?_
 clear hlD
 exact RD.mk (.mk 12 x3 x4 [] Px.expr0 [] [] [] [] x1) s5 (by refine Rel.bind hq1.out ?_;unfold refS;refine Rel.bn (no_word (fun ts e=>by cases e;rw[show Px.word (t :: r)=_ from ht];decide)) ?_;refine Rel.bn (no_word (fun ts e=>by cases e;rw[show Px.word (t :: r)=_ from ht];decide)) ?_;refine Rel.bn (no_word (fun ts e=>by cases e;rw[show Px.word (t :: r)=_ from ht];decide)) ?_;refine Rel.bn (no_word (fun ts e=>by cases e;rw[show Px.word (t :: r)=_ from ht];decide)) ?_;refine Rel.bn (no_word (fun ts e=>by cases e;rw[show Px.word (t :: r)=_ from ht];decide)) ?_;refine Rel.bn (no_word (fun ts e=>by cases e;rw[show Px.word (t :: r)=_ from ht];decide)) ?_;refine Rel.bn (no_word (fun ts e=>by cases e;rw[show Px.word (t :: r)=_ from ht];decide)) ?_;refine Rel.bn (no_word (fun ts e=>by cases e;rw[show Px.word (t :: r)=_ from ht];decide)) ?_;refine Rel.bn (no_word (fun ts e=>by cases e;rw[show Px.word (t :: r)=_ from ht];decide)) ?_;refine Rel.bn (no_word (fun ts e=>by cases e;rw[show Px.word (t :: r)=_ from ht];decide)) ?_;refine Rel.by (Rel.take_true (show ([[115,112,97,119,110]]:List Txt).contains t.text=true by rw[ht];decide)) ?_;unfold Px.spawnS;refine .bind hq3.out<|.bind hq4.out<|.bind hq5.out ?_;exact Rel.pure _ _) (HF5.out.jf [w1.heap.size,w.heap.size]) (HI5.out.f [w1.heap.size,w.heap.size] H.out) ⟨_,rfl,(by rw[stmtQ_mk];unfold strsQ typesS stmtsS armsS funcsS;exact rep_int.2 ⟨_,rfl,rep_str.2 ⟨_,rfl,rep_sl.2 ⟨_,_,rfl,(HV4_5.out.f [w1.heap.size,w.heap.size]),rep_sl.2 ⟨_,_,rfl,RowV.nil _ _ _ _,Rep.app (cs:=[.int .i64 0,.string ⟨#[]⟩,.string ⟨#[]⟩,.string ⟨#[]⟩,.slice none 0 0,.int .i64 0,.slice none 0 0,.int .i64 0]) (expr0_rep) (rep_sl.2 ⟨_,_,rfl,RowV.nil _ _ _ _,rep_sl.2 ⟨_,_,rfl,RowV.nil _ _ _ _,rep_sl.2 ⟨_,_,rfl,RowV.nil _ _ _ _,rep_sl.2 ⟨_,_,rfl,RowV.nil _ _ _ _,rep_int.2 ⟨_,rfl,rep_nil.2 rfl⟩⟩⟩⟩⟩)⟩⟩⟩⟩)⟩
set_option maxRecDepth 100000 in
set_option maxHeartbeats 6400000 in
theorem rstmt_set (c:RCtx) (s:RS) (w:World) (h:IR c s w) (hno:∀ i,i<12→∀ ts,s=.live ts→Px.word ts≠stW i) (n m:Nat) (hst:RL c 99 (RS.mu s) (okAgg stmtQ) (Px.stmtF c.size n m)) (hm:(RS.mu s)≤n) :
  Calls Tryz.prog 99 #[.pointer (some ⟨c.R,0,none⟩)] w (RD c w (okAgg stmtQ) (do let o ← Px.offsetR c.size;refS c.size n m o) s):=by
 have HST:=hid hst
 clear hst
 have H:=hid h
 have HR0:=H.out.lt.1
 clear h
 go_enter Tryz.func99,Tryz.ntmps99
 go_wp2_with fail
 refine(rat_same c s _ (by exact H.out.f [] H.out)).mono ?_
 rintro e w1 hp
 obtain⟨x1,rfl,hq1,hf,hi⟩:=hp
 have hT:Fr [c.R] w w1:=Fr.trans frk hf.wide
 have hz1:=hf.size;try simp at hz1
 have HB1:Hid (Blk w1 (w.heap.size) 52 #[zI,zS,zN,zN,zI,zS,zS,zS,zN,zI,zN,zI,zN,zN,zN,zN,zI]):=hid ((Blk.new w _ _).keep hf (by first|(simp;done)|omega|(simp;omega)))
 have HI1:=hid hi
 have HF1:=hid ((Fr.refl [c.R] w).j hT)
 clear hT hf hi
 have hneDB:w1.heap.size≠w.heap.size:=by omega
 have hneBD:=hneDB.symm
 go_wp2_with (refine wpList_store_row rfl 52 _ _ rfl (w1.heap.size) #[.int .i64 0,.string ⟨#[]⟩,.slice none 0 0,.slice none 0 0,.int .i64 0,.string ⟨#[]⟩,.string ⟨#[]⟩,.string ⟨#[]⟩,.slice none 0 0,.int .i64 0,.slice none 0 0,.int .i64 0,.slice none 0 0,.slice none 0 0,.slice none 0 0,.slice none 0 0,.int .i64 x1] rfl rfl 52 _ (Blk.new_at (by simp)) rstmt_size rfl (by simp[Value.oneCell']) ?_)
 refine(rnext_no c s [108,101,116] _ (by exact HI1.out.f [w1.heap.size] H.out) (by decide) (by decide) (fun ts e=>hno 0 (by decide) ts e)).mono ?_
 rintro e wj0 ⟨rfl,hf,hi⟩
 have HG0:=hid hf
 have HJ0:=hid hi
 clear hf hi
 go_wp2_with fail
 refine(rnext_no c s [42] _ HJ0.out (by decide) (by decide) (fun ts e=>hno 1 (by decide) ts e)).mono ?_
 rintro e wj1 ⟨rfl,hf,hi⟩
 have HG1:=hid (HG0.out.trans hf)
 have HJ1:=hid hi
 clear hf hi
 go_wp2_with fail
 refine(rnext_no c s [105,102] _ HJ1.out (by decide) (by decide) (fun ts e=>hno 2 (by decide) ts e)).mono ?_
 rintro e wj2 ⟨rfl,hf,hi⟩
 have HG2:=hid (HG1.out.trans hf)
 have HJ2:=hid hi
 clear hf hi
 go_wp2_with fail
 refine(rnext_no c s [119,104,105,108,101] _ HJ2.out (by decide) (by decide) (fun ts e=>hno 3 (by decide) ts e)).mono ?_
 rintro e wj3 ⟨rfl,hf,hi⟩
 have HG3:=hid (HG2.out.trans hf)
 have HJ3:=hid hi
 clear hf hi
 go_wp2_with fail
 refine(rnext_no c s [109,97,116,99,104] _ HJ3.out (by decide) (by decide) (fun ts e=>hno 4 (by decide) ts e)).mono ?_
 rintro e wj4 ⟨rfl,hf,hi⟩
 have HG4:=hid (HG3.out.trans hf)
 have HJ4:=hid hi
 clear hf hi
 go_wp2_with fail
 refine(rnext_no c s [114,101,116,117,114,110] _ HJ4.out (by decide) (by decide) (fun ts e=>hno 5 (by decide) ts e)).mono ?_
 rintro e wj5 ⟨rfl,hf,hi⟩
 have HG5:=hid (HG4.out.trans hf)
 have HJ5:=hid hi
 clear hf hi
 go_wp2_with fail
 refine(rnext_no c s [112,97,110,105,99] _ HJ5.out (by decide) (by decide) (fun ts e=>hno 6 (by decide) ts e)).mono ?_
 rintro e wj6 ⟨rfl,hf,hi⟩
 have HG6:=hid (HG5.out.trans hf)
 have HJ6:=hid hi
 clear hf hi
 go_wp2_with fail
 refine(rnext_no c s [100,114,111,112] _ HJ6.out (by decide) (by decide) (fun ts e=>hno 7 (by decide) ts e)).mono ?_
 rintro e wj7 ⟨rfl,hf,hi⟩
 have HG7:=hid (HG6.out.trans hf)
 have HJ7:=hid hi
 clear hf hi
 go_wp2_with fail
 refine(rnext_no c s [112,114,105,110,116] _ HJ7.out (by decide) (by decide) (fun ts e=>hno 8 (by decide) ts e)).mono ?_
 rintro e wj8 ⟨rfl,hf,hi⟩
 have HG8:=hid (HG7.out.trans hf)
 have HJ8:=hid hi
 clear hf hi
 go_wp2_with fail
 refine(rnext_no c s [115,101,110,100] _ HJ8.out (by decide) (by decide) (fun ts e=>hno 9 (by decide) ts e)).mono ?_
 rintro e wj9 ⟨rfl,hf,hi⟩
 have HG9:=hid (HG8.out.trans hf)
 have HJ9:=hid hi
 clear hf hi
 go_wp2_with fail
 refine(rnext_no c s [115,112,97,119,110] _ HJ9.out (by decide) (by decide) (fun ts e=>hno 10 (by decide) ts e)).mono ?_
 rintro e wj10 ⟨rfl,hf,hi⟩
 have HG10:=hid (HG9.out.trans hf)
 have HJ10:=hid hi
 clear hf hi
 go_wp2_with fail
 refine(rnext_no c s [102,110] _ HJ10.out (by decide) (by decide) (fun ts e=>hno 11 (by decide) ts e)).mono ?_
 rintro e wj11 ⟨rfl,hf,hi⟩
 have HG11:=hid (HG10.out.trans hf)
 have HJ11:=hid hi
 clear hf hi
 skip
 obtain⟨w2,hw2⟩:∃ w2,w2=wj11:=⟨_,rfl⟩
 rw[← hw2]
 have hf:=HG11.out;have hi:=HJ11.out;rw[← hw2] at hf hi
 clear hw2
 obtain⟨hT,HB2,HI2,HF2,hz2⟩:=IR.st [w1.heap.size] HB1.out HF1.out hf hi
 try simp at hz2
 have HD2:Hid (Blk w2 (w1.heap.size) 52 #[zI,zS,zN,zN,zI,zS,zS,zS,zN,zI,zN,zI,zN,zN,zN,zN,.int .i64 x1]):=hid ((show Blk _ (w1.heap.size) 52 #[zI,zS,zN,zN,zI,zS,zS,zS,zN,zI,zN,zI,zN,zN,zN,zN,.int .i64 x1] from setRow_heap _ _ _ _ _ _ (Blk.new_at (by simp))).k hf)
 clear hT hf hi
 have hlD:=HD2.out.lt
 obtain⟨d0,f0⟩:=HD2.out.df 0 (v:=.int .i64 0) rfl
 go_wp2_with fail
 clear hlD d0 f0
 refine(rname_any c s _ (by exact HI2.out.f [w1.heap.size] H.out)).mono ?_
 rintro e w3 ⟨_,x3,s3,rfl,hq3,hf,hi,rfl⟩
 obtain⟨hT,HB3,HI3,HF3,hz3⟩:=IR.st [w1.heap.size] HB2.out HF2.out hf hi
 try simp at hz3
 have HD3:Hid (Blk w3 (w1.heap.size) 52 #[.int .i64 2,zS,zN,zN,zI,zS,zS,zS,zN,zI,zN,zI,zN,zN,zN,zN,.int .i64 x1]):=hid ((HD2.out.set 0 (.int .i64 2)).k hf)
 have hl3:=hq3.out.mu Shr.name
 clear hT hf hi
 have hlD:=HD3.out.lt
 obtain⟨d1,f1⟩:=HD3.out.df 1 (v:=.string ⟨#[]⟩) rfl
 go_wp2_with fail
 clear hlD d1 f1
 refine(rneed_q c s3 [61] _ (by exact HI3.out.f [w1.heap.size] H.out)).mono ?_
 rintro e w4 ⟨rfl,x4,s4,hq4,hf,hi⟩
 obtain⟨hT,HB4,HI4,HF4,hz4⟩:=IR.st [w1.heap.size] HB3.out HF3.out hf hi
 try simp at hz4
 have HD4:Hid (Blk w4 (w1.heap.size) 52 #[.int .i64 2,.string ⟨x3.toArray⟩,zN,zN,zI,zS,zS,zS,zN,zI,zN,zI,zN,zN,zN,zN,.int .i64 x1]):=hid ((HD3.out.set 1 (.string ⟨x3.toArray⟩)).k hf)
 have hl4:=hq4.out.mu (Shr.expect _)
 clear hT hf hi
 have hlD:=HD4.out.lt
 go_wp2_with fail
 clear hlD
 refine(rexpr_any c s4 _ (by exact HI4.out.f [w1.heap.size] H.out) n (by omega)).mono ?_
 rintro e w5 ⟨v5,x5,s5,rfl,hq5,hf,hi,hv⟩
 obtain⟨cs,rfl,hrep⟩:=hv
 obtain⟨i5_0,s5_1,s5_2,s5_3,p5_4,n5_4,c5_4,i5_5,p5_6,n5_6,c5_6,i5_7,rfl⟩:=hrep.c_exprQ
 have hV5:=hrep.k (N':=(fun k=>w.heap.size≤k∧k≠w.heap.size∧k≠w1.heap.size)) (Fr.refl [] _)
 obtain⟨hT,HB5,HI5,HF5,hz5⟩:=IR.st [w1.heap.size] HB4.out HF4.out hf hi
 try simp at hz5
 have HD5:=hid (HD4.out.k hf)
 have HV5:=hid hV5
 have hl5:=hq5.out.mu (shr_expr _ _)
 clear hT hf hi hV5 hrep
 have hlD:=HD5.out.lt
 obtain⟨d4,f4⟩:=HD5.out.df 4 (v:=.int .i64 0) rfl
 obtain⟨d5,f5⟩:=HD5.out.df 5 (v:=.string ⟨#[]⟩) rfl
 obtain⟨d6,f6⟩:=HD5.out.df 6 (v:=.string ⟨#[]⟩) rfl
 obtain⟨d7,f7⟩:=HD5.out.df 7 (v:=.string ⟨#[]⟩) rfl
 obtain⟨d8,f8⟩:=HD5.out.df 8 (v:=.slice none 0 0) rfl
 obtain⟨d9,f9⟩:=HD5.out.df 9 (v:=.int .i64 0) rfl
 obtain⟨d10,f10⟩:=HD5.out.df 10 (v:=.slice none 0 0) rfl
 obtain⟨d11,f11⟩:=HD5.out.df 11 (v:=.int .i64 0) rfl
 go_wp2_with fail
 clear hlD d4 f4 d5 f5 d6 f6 d7 f7 d8 f8 d9 f9 d10 f10 d11 f11
 refine(rneed_q c s5 [59] _ (by exact HI5.out.f [w1.heap.size] H.out)).mono ?_
 rintro e w6 ⟨rfl,x6,s6,hq6,hf,hi⟩
 obtain⟨hT,HB6,HI6,HF6,hz6⟩:=IR.st [w1.heap.size] HB5.out HF5.out hf hi
 try simp at hz6
 have hS0:Blk _ (w1.heap.size) 52 #[.int .i64 2,.string ⟨x3.toArray⟩,zN,zN,.int .i64 i5_0,zS,zS,zS,zN,zI,zN,zI,zN,zN,zN,zN,.int .i64 x1]:=HD5.out.set 4 (.int .i64 i5_0)
 have hS1:Blk _ (w1.heap.size) 52 #[.int .i64 2,.string ⟨x3.toArray⟩,zN,zN,.int .i64 i5_0,.string s5_1,zS,zS,zN,zI,zN,zI,zN,zN,zN,zN,.int .i64 x1]:=hS0.set 5 (.string s5_1)
 have hS2:Blk _ (w1.heap.size) 52 #[.int .i64 2,.string ⟨x3.toArray⟩,zN,zN,.int .i64 i5_0,.string s5_1,.string s5_2,zS,zN,zI,zN,zI,zN,zN,zN,zN,.int .i64 x1]:=hS1.set 6 (.string s5_2)
 have hS3:Blk _ (w1.heap.size) 52 #[.int .i64 2,.string ⟨x3.toArray⟩,zN,zN,.int .i64 i5_0,.string s5_1,.string s5_2,.string s5_3,zN,zI,zN,zI,zN,zN,zN,zN,.int .i64 x1]:=hS2.set 7 (.string s5_3)
 have hS4:Blk _ (w1.heap.size) 52 #[.int .i64 2,.string ⟨x3.toArray⟩,zN,zN,.int .i64 i5_0,.string s5_1,.string s5_2,.string s5_3,.slice p5_4 n5_4 c5_4,zI,zN,zI,zN,zN,zN,zN,.int .i64 x1]:=hS3.set 8 (.slice p5_4 n5_4 c5_4)
 have hS5:Blk _ (w1.heap.size) 52 #[.int .i64 2,.string ⟨x3.toArray⟩,zN,zN,.int .i64 i5_0,.string s5_1,.string s5_2,.string s5_3,.slice p5_4 n5_4 c5_4,.int .i64 i5_5,zN,zI,zN,zN,zN,zN,.int .i64 x1]:=hS4.set 9 (.int .i64 i5_5)
 have hS6:Blk _ (w1.heap.size) 52 #[.int .i64 2,.string ⟨x3.toArray⟩,zN,zN,.int .i64 i5_0,.string s5_1,.string s5_2,.string s5_3,.slice p5_4 n5_4 c5_4,.int .i64 i5_5,.slice p5_6 n5_6 c5_6,zI,zN,zN,zN,zN,.int .i64 x1]:=hS5.set 10 (.slice p5_6 n5_6 c5_6)
 have hS7:Blk _ (w1.heap.size) 52 #[.int .i64 2,.string ⟨x3.toArray⟩,zN,zN,.int .i64 i5_0,.string s5_1,.string s5_2,.string s5_3,.slice p5_4 n5_4 c5_4,.int .i64 i5_5,.slice p5_6 n5_6 c5_6,.int .i64 i5_7,zN,zN,zN,zN,.int .i64 x1]:=hS6.set 11 (.int .i64 i5_7)
 have HD6:Hid (Blk w6 (w1.heap.size) 52 #[.int .i64 2,.string ⟨x3.toArray⟩,zN,zN,.int .i64 i5_0,.string s5_1,.string s5_2,.string s5_3,.slice p5_4 n5_4 c5_4,.int .i64 i5_5,.slice p5_6 n5_6 c5_6,.int .i64 i5_7,zN,zN,zN,zN,.int .i64 x1]):=hid (hS7.k hf)
 clear hS0 hS1 hS2 hS3 hS4 hS5 hS6 hS7
 have HV5_6:=hid (HV5.out.ks hT)
 have hl6:=hq6.out.mu (Shr.expect _)
 clear hT hf hi
 have hlD:=HD6.out.lt
 go_wp2_with (first|(refine wpList_load_row rfl 52 _ rfl (w1.heap.size) rfl 52 _ (0,0) _ HD6.out Tryz.underlying52 rfl rstmt_size ?_)|(refine wpList_store_row rfl 52 _ _ rfl (w.heap.size) _ rfl rfl 52 _ (HB6.out.row [w1.heap.size]) rstmt_size rfl (by simp[Value.oneCell']) ?_))
 refine bodyPost_ret (results_cell_row (p:=2) rfl _ _ (w.heap.size) 52 _ (0,0) _ rfl (setRow_heap _ _ _ _ _ _ (HB6.out.row [w1.heap.size])) Tryz.underlying52 rfl rstmt_size) rfl ?_
 clear hlD
 exact RD.mk (.mk 2 x3 [] [] x5 [] [] [] [] x1) s6 (by refine Rel.bind hq1.out ?_;unfold refS;refine Rel.bn (no_word (fun ts e=>hno 0 (by decide) ts e)) ?_;refine Rel.bn (no_word (fun ts e=>hno 1 (by decide) ts e)) ?_;refine Rel.bn (no_word (fun ts e=>hno 2 (by decide) ts e)) ?_;refine Rel.bn (no_word (fun ts e=>hno 3 (by decide) ts e)) ?_;refine Rel.bn (no_word (fun ts e=>hno 4 (by decide) ts e)) ?_;refine Rel.bn (no_word (fun ts e=>hno 5 (by decide) ts e)) ?_;refine Rel.bn (no_word (fun ts e=>hno 6 (by decide) ts e)) ?_;refine Rel.bn (no_word (fun ts e=>hno 7 (by decide) ts e)) ?_;refine Rel.bn (no_word (fun ts e=>hno 8 (by decide) ts e)) ?_;refine Rel.bn (no_word (fun ts e=>hno 9 (by decide) ts e)) ?_;refine Rel.bn (no_word (fun ts e=>hno 10 (by decide) ts e)) ?_;refine Rel.bn (no_word (fun ts e=>hno 11 (by decide) ts e)) ?_;unfold Px.setS;refine .bind hq3.out<|.bind hq4.out ?_;refine .bind hq5.out<|.bind hq6.out ?_;exact Rel.pure _ _) (HF6.out.jf [w1.heap.size,w.heap.size]) (HI6.out.f [w1.heap.size,w.heap.size] H.out) ⟨_,rfl,(by rw[stmtQ_mk];unfold strsQ typesS stmtsS armsS funcsS;exact rep_int.2 ⟨_,rfl,rep_str.2 ⟨_,rfl,rep_sl.2 ⟨_,_,rfl,RowV.nil _ _ _ _,rep_sl.2 ⟨_,_,rfl,RowV.nil _ _ _ _,Rep.app (cs:=[.int .i64 i5_0,.string s5_1,.string s5_2,.string s5_3,.slice p5_4 n5_4 c5_4,.int .i64 i5_5,.slice p5_6 n5_6 c5_6,.int .i64 i5_7]) (HV5_6.out.f [w1.heap.size,w.heap.size]) (rep_sl.2 ⟨_,_,rfl,RowV.nil _ _ _ _,rep_sl.2 ⟨_,_,rfl,RowV.nil _ _ _ _,rep_sl.2 ⟨_,_,rfl,RowV.nil _ _ _ _,rep_sl.2 ⟨_,_,rfl,RowV.nil _ _ _ _,rep_int.2 ⟨_,rfl,rep_nil.2 rfl⟩⟩⟩⟩⟩)⟩⟩⟩⟩)⟩
set_option maxRecDepth 100000 in
set_option maxHeartbeats 6400000 in
theorem rstmt_return (c:RCtx) (t:Tk) (r:List Tk) (w:World) (h:IR c (RS.live (t :: r)) w) (ht:t.text=[114,101,116,117,114,110]) (n m:Nat) (hst:RL c 99 (RS.mu (RS.live (t :: r))) (okAgg stmtQ) (Px.stmtF c.size n m)) (hm:(RS.mu (RS.live (t :: r)))≤n) :
  Calls Tryz.prog 99 #[.pointer (some ⟨c.R,0,none⟩)] w (RD c w (okAgg stmtQ) (do let o ← Px.offsetR c.size;refS c.size n m o) (RS.live (t :: r))):=by
 have HST:=hid hst
 clear hst
 have H:=hid h
 have HR0:=H.out.lt.1
 clear h
 go_enter Tryz.func99,Tryz.ntmps99
 go_wp2_with fail
 refine(rat_same c (RS.live (t :: r)) _ (by exact H.out.f [] H.out)).mono ?_
 rintro e w1 hp
 obtain⟨x1,rfl,hq1,hf,hi⟩:=hp
 have hT:Fr [c.R] w w1:=Fr.trans frk hf.wide
 have hz1:=hf.size;try simp at hz1
 have HB1:Hid (Blk w1 (w.heap.size) 52 #[zI,zS,zN,zN,zI,zS,zS,zS,zN,zI,zN,zI,zN,zN,zN,zN,zI]):=hid ((Blk.new w _ _).keep hf (by first|(simp;done)|omega|(simp;omega)))
 have HI1:=hid hi
 have HF1:=hid ((Fr.refl [c.R] w).j hT)
 clear hT hf hi
 have hneDB:w1.heap.size≠w.heap.size:=by omega
 have hneBD:=hneDB.symm
 go_wp2_with (refine wpList_store_row rfl 52 _ _ rfl (w1.heap.size) #[.int .i64 0,.string ⟨#[]⟩,.slice none 0 0,.slice none 0 0,.int .i64 0,.string ⟨#[]⟩,.string ⟨#[]⟩,.string ⟨#[]⟩,.slice none 0 0,.int .i64 0,.slice none 0 0,.int .i64 0,.slice none 0 0,.slice none 0 0,.slice none 0 0,.slice none 0 0,.int .i64 x1] rfl rfl 52 _ (Blk.new_at (by simp)) rstmt_size rfl (by simp[Value.oneCell']) ?_)
 refine(rnext_no c (RS.live (t :: r)) [108,101,116] _ (by exact HI1.out.f [w1.heap.size] H.out) (by decide) (by decide) (fun ts e=>by cases e;rw[show Px.word (t :: r)=_ from ht];decide)).mono ?_
 rintro e wj0 ⟨rfl,hf,hi⟩
 have HG0:=hid hf
 have HJ0:=hid hi
 clear hf hi
 go_wp2_with fail
 refine(rnext_no c (RS.live (t :: r)) [42] _ HJ0.out (by decide) (by decide) (fun ts e=>by cases e;rw[show Px.word (t :: r)=_ from ht];decide)).mono ?_
 rintro e wj1 ⟨rfl,hf,hi⟩
 have HG1:=hid (HG0.out.trans hf)
 have HJ1:=hid hi
 clear hf hi
 go_wp2_with fail
 refine(rnext_no c (RS.live (t :: r)) [105,102] _ HJ1.out (by decide) (by decide) (fun ts e=>by cases e;rw[show Px.word (t :: r)=_ from ht];decide)).mono ?_
 rintro e wj2 ⟨rfl,hf,hi⟩
 have HG2:=hid (HG1.out.trans hf)
 have HJ2:=hid hi
 clear hf hi
 go_wp2_with fail
 refine(rnext_no c (RS.live (t :: r)) [119,104,105,108,101] _ HJ2.out (by decide) (by decide) (fun ts e=>by cases e;rw[show Px.word (t :: r)=_ from ht];decide)).mono ?_
 rintro e wj3 ⟨rfl,hf,hi⟩
 have HG3:=hid (HG2.out.trans hf)
 have HJ3:=hid hi
 clear hf hi
 go_wp2_with fail
 refine(rnext_no c (RS.live (t :: r)) [109,97,116,99,104] _ HJ3.out (by decide) (by decide) (fun ts e=>by cases e;rw[show Px.word (t :: r)=_ from ht];decide)).mono ?_
 rintro e wj4 ⟨rfl,hf,hi⟩
 have HG4:=hid (HG3.out.trans hf)
 have HJ4:=hid hi
 clear hf hi
 go_wp2_with fail
 refine(rnext_yes c t r [114,101,116,117,114,110] _ HJ4.out ht (by decide) (by decide)).mono ?_
 rintro e w2 ⟨rfl,hf0,hi⟩
 have hf:=HG4.out.trans hf0
 obtain⟨hT,HB2,HI2,HF2,hz2⟩:=IR.st [w1.heap.size] HB1.out HF1.out hf hi
 try simp at hz2
 have HD2:Hid (Blk w2 (w1.heap.size) 52 #[zI,zS,zN,zN,zI,zS,zS,zS,zN,zI,zN,zI,zN,zN,zN,zN,.int .i64 x1]):=hid ((show Blk _ (w1.heap.size) 52 #[zI,zS,zN,zN,zI,zS,zS,zS,zN,zI,zN,zI,zN,zN,zN,zN,.int .i64 x1] from setRow_heap _ _ _ _ _ _ (Blk.new_at (by simp))).k hf)
 clear hT hf hi hf0
 have hlr:(RS.live r).mu<(RS.live (t :: r)).mu:=by simp[RS.mu]
 have hlD:=HD2.out.lt
 go_wp2_with fail
 clear hlD
 refine(rsimple_any c 7 x1 (RS.live r) _ (by exact HI2.out.f [w1.heap.size] H.out)).mono ?_
 rintro e w3 ⟨v3,x3,s3,rfl,hq3,hf,hi,hv⟩
 obtain⟨cs,rfl,hrep⟩:=hv
 obtain⟨i3_0,s3_1,p3_2,n3_2,c3_2,p3_3,n3_3,c3_3,i3_4,s3_5,s3_6,s3_7,p3_8,n3_8,c3_8,i3_9,p3_10,n3_10,c3_10,i3_11,p3_12,n3_12,c3_12,p3_13,n3_13,c3_13,p3_14,n3_14,c3_14,p3_15,n3_15,c3_15,i3_16,rfl⟩:=hrep.c_stmtQ
 have hV3:=hrep.k (N':=(fun k=>w.heap.size≤k∧k≠w.heap.size∧k≠w1.heap.size)) (Fr.refl [] _)
 obtain⟨hT,HB3,HI3,HF3,hz3⟩:=IR.st [w1.heap.size] HB2.out HF2.out hf hi
 try simp at hz3
 have HD3:=hid (HD2.out.k hf)
 have HV3:=hid hV3
 clear hT hf hi hV3 hrep
 go_wp2_with (refine wpList_store_row rfl 52 _ _ rfl (w.heap.size) #[.int .i64 i3_0,.string s3_1,.slice p3_2 n3_2 c3_2,.slice p3_3 n3_3 c3_3,.int .i64 i3_4,.string s3_5,.string s3_6,.string s3_7,.slice p3_8 n3_8 c3_8,.int .i64 i3_9,.slice p3_10 n3_10 c3_10,.int .i64 i3_11,.slice p3_12 n3_12 c3_12,.slice p3_13 n3_13 c3_13,.slice p3_14 n3_14 c3_14,.slice p3_15 n3_15 c3_15,.int .i64 i3_16] rfl rfl 52 _ (show Blk _ (w.heap.size) 52 #[zI,zS,zN,zN,zI,zS,zS,zS,zN,zI,zN,zI,zN,zN,zN,zN,zI] from HB3.out.f [w1.heap.size]) rstmt_size rfl (by simp[Value.oneCell']) ?_)
 refine bodyPost_ret (v:=.agg #[.int .i64 i3_0,.string s3_1,.slice p3_2 n3_2 c3_2,.slice p3_3 n3_3 c3_3,.int .i64 i3_4,.string s3_5,.string s3_6,.string s3_7,.slice p3_8 n3_8 c3_8,.int .i64 i3_9,.slice p3_10 n3_10 c3_10,.int .i64 i3_11,.slice p3_12 n3_12 c3_12,.slice p3_13 n3_13 c3_13,.slice p3_14 n3_14 c3_14,.slice p3_15 n3_15 c3_15,.int .i64 i3_16]) ?_ rfl ?_
 ·exact results_cell_row (p:=2) rfl _ _ (w.heap.size) 52 #[.int .i64 i3_0,.string s3_1,.slice p3_2 n3_2 c3_2,.slice p3_3 n3_3 c3_3,.int .i64 i3_4,.string s3_5,.string s3_6,.string s3_7,.slice p3_8 n3_8 c3_8,.int .i64 i3_9,.slice p3_10 n3_10 c3_10,.int .i64 i3_11,.slice p3_12 n3_12 c3_12,.slice p3_13 n3_13 c3_13,.slice p3_14 n3_14 c3_14,.slice p3_15 n3_15 c3_15,.int .i64 i3_16] (0,0) _ rfl (setRow_heap _ _ _ _ _ _ (show Blk _ (w.heap.size) 52 #[zI,zS,zN,zN,zI,zS,zS,zS,zN,zI,zN,zI,zN,zN,zN,zN,zI] from HB3.out.f [w1.heap.size])) Tryz.underlying52 rfl rstmt_size
 exact RD.mk (x3) s3 (by refine Rel.bind hq1.out ?_;unfold refS;refine Rel.bn (no_word (fun ts e=>by cases e;rw[show Px.word (t :: r)=_ from ht];decide)) ?_;refine Rel.bn (no_word (fun ts e=>by cases e;rw[show Px.word (t :: r)=_ from ht];decide)) ?_;refine Rel.bn (no_word (fun ts e=>by cases e;rw[show Px.word (t :: r)=_ from ht];decide)) ?_;refine Rel.bn (no_word (fun ts e=>by cases e;rw[show Px.word (t :: r)=_ from ht];decide)) ?_;refine Rel.bn (no_word (fun ts e=>by cases e;rw[show Px.word (t :: r)=_ from ht];decide)) ?_;refine Rel.by (Rel.take_true (show ([[114,101,116,117,114,110]]:List Txt).contains t.text=true by rw[ht];decide)) ?_;exact hq3.out) (HF3.out.jf [w1.heap.size,w.heap.size]) (HI3.out.f [w1.heap.size,w.heap.size] H.out) ⟨_,rfl,(HV3.out.f [w1.heap.size,w.heap.size])⟩
set_option maxRecDepth 100000 in
set_option maxHeartbeats 6400000 in
theorem rstmt_drop (c:RCtx) (t:Tk) (r:List Tk) (w:World) (h:IR c (RS.live (t :: r)) w) (ht:t.text=[100,114,111,112]) (n m:Nat) (hst:RL c 99 (RS.mu (RS.live (t :: r))) (okAgg stmtQ) (Px.stmtF c.size n m)) (hm:(RS.mu (RS.live (t :: r)))≤n) :
  Calls Tryz.prog 99 #[.pointer (some ⟨c.R,0,none⟩)] w (RD c w (okAgg stmtQ) (do let o ← Px.offsetR c.size;refS c.size n m o) (RS.live (t :: r))):=by
 have HST:=hid hst
 clear hst
 have H:=hid h
 have HR0:=H.out.lt.1
 clear h
 go_enter Tryz.func99,Tryz.ntmps99
 go_wp2_with fail
 refine(rat_same c (RS.live (t :: r)) _ (by exact H.out.f [] H.out)).mono ?_
 rintro e w1 hp
 obtain⟨x1,rfl,hq1,hf,hi⟩:=hp
 have hT:Fr [c.R] w w1:=Fr.trans frk hf.wide
 have hz1:=hf.size;try simp at hz1
 have HB1:Hid (Blk w1 (w.heap.size) 52 #[zI,zS,zN,zN,zI,zS,zS,zS,zN,zI,zN,zI,zN,zN,zN,zN,zI]):=hid ((Blk.new w _ _).keep hf (by first|(simp;done)|omega|(simp;omega)))
 have HI1:=hid hi
 have HF1:=hid ((Fr.refl [c.R] w).j hT)
 clear hT hf hi
 have hneDB:w1.heap.size≠w.heap.size:=by omega
 have hneBD:=hneDB.symm
 go_wp2_with (refine wpList_store_row rfl 52 _ _ rfl (w1.heap.size) #[.int .i64 0,.string ⟨#[]⟩,.slice none 0 0,.slice none 0 0,.int .i64 0,.string ⟨#[]⟩,.string ⟨#[]⟩,.string ⟨#[]⟩,.slice none 0 0,.int .i64 0,.slice none 0 0,.int .i64 0,.slice none 0 0,.slice none 0 0,.slice none 0 0,.slice none 0 0,.int .i64 x1] rfl rfl 52 _ (Blk.new_at (by simp)) rstmt_size rfl (by simp[Value.oneCell']) ?_)
 refine(rnext_no c (RS.live (t :: r)) [108,101,116] _ (by exact HI1.out.f [w1.heap.size] H.out) (by decide) (by decide) (fun ts e=>by cases e;rw[show Px.word (t :: r)=_ from ht];decide)).mono ?_
 rintro e wj0 ⟨rfl,hf,hi⟩
 have HG0:=hid hf
 have HJ0:=hid hi
 clear hf hi
 go_wp2_with fail
 refine(rnext_no c (RS.live (t :: r)) [42] _ HJ0.out (by decide) (by decide) (fun ts e=>by cases e;rw[show Px.word (t :: r)=_ from ht];decide)).mono ?_
 rintro e wj1 ⟨rfl,hf,hi⟩
 have HG1:=hid (HG0.out.trans hf)
 have HJ1:=hid hi
 clear hf hi
 go_wp2_with fail
 refine(rnext_no c (RS.live (t :: r)) [105,102] _ HJ1.out (by decide) (by decide) (fun ts e=>by cases e;rw[show Px.word (t :: r)=_ from ht];decide)).mono ?_
 rintro e wj2 ⟨rfl,hf,hi⟩
 have HG2:=hid (HG1.out.trans hf)
 have HJ2:=hid hi
 clear hf hi
 go_wp2_with fail
 refine(rnext_no c (RS.live (t :: r)) [119,104,105,108,101] _ HJ2.out (by decide) (by decide) (fun ts e=>by cases e;rw[show Px.word (t :: r)=_ from ht];decide)).mono ?_
 rintro e wj3 ⟨rfl,hf,hi⟩
 have HG3:=hid (HG2.out.trans hf)
 have HJ3:=hid hi
 clear hf hi
 go_wp2_with fail
 refine(rnext_no c (RS.live (t :: r)) [109,97,116,99,104] _ HJ3.out (by decide) (by decide) (fun ts e=>by cases e;rw[show Px.word (t :: r)=_ from ht];decide)).mono ?_
 rintro e wj4 ⟨rfl,hf,hi⟩
 have HG4:=hid (HG3.out.trans hf)
 have HJ4:=hid hi
 clear hf hi
 go_wp2_with fail
 refine(rnext_no c (RS.live (t :: r)) [114,101,116,117,114,110] _ HJ4.out (by decide) (by decide) (fun ts e=>by cases e;rw[show Px.word (t :: r)=_ from ht];decide)).mono ?_
 rintro e wj5 ⟨rfl,hf,hi⟩
 have HG5:=hid (HG4.out.trans hf)
 have HJ5:=hid hi
 clear hf hi
 go_wp2_with fail
 refine(rnext_no c (RS.live (t :: r)) [112,97,110,105,99] _ HJ5.out (by decide) (by decide) (fun ts e=>by cases e;rw[show Px.word (t :: r)=_ from ht];decide)).mono ?_
 rintro e wj6 ⟨rfl,hf,hi⟩
 have HG6:=hid (HG5.out.trans hf)
 have HJ6:=hid hi
 clear hf hi
 go_wp2_with fail
 refine(rnext_yes c t r [100,114,111,112] _ HJ6.out ht (by decide) (by decide)).mono ?_
 rintro e w2 ⟨rfl,hf0,hi⟩
 have hf:=HG6.out.trans hf0
 obtain⟨hT,HB2,HI2,HF2,hz2⟩:=IR.st [w1.heap.size] HB1.out HF1.out hf hi
 try simp at hz2
 have HD2:Hid (Blk w2 (w1.heap.size) 52 #[zI,zS,zN,zN,zI,zS,zS,zS,zN,zI,zN,zI,zN,zN,zN,zN,.int .i64 x1]):=hid ((show Blk _ (w1.heap.size) 52 #[zI,zS,zN,zN,zI,zS,zS,zS,zN,zI,zN,zI,zN,zN,zN,zN,.int .i64 x1] from setRow_heap _ _ _ _ _ _ (Blk.new_at (by simp))).k hf)
 clear hT hf hi hf0
 have hlr:(RS.live r).mu<(RS.live (t :: r)).mu:=by simp[RS.mu]
 have hlD:=HD2.out.lt
 go_wp2_with fail
 clear hlD
 refine(rsimple_any c 9 x1 (RS.live r) _ (by exact HI2.out.f [w1.heap.size] H.out)).mono ?_
 rintro e w3 ⟨v3,x3,s3,rfl,hq3,hf,hi,hv⟩
 obtain⟨cs,rfl,hrep⟩:=hv
 obtain⟨i3_0,s3_1,p3_2,n3_2,c3_2,p3_3,n3_3,c3_3,i3_4,s3_5,s3_6,s3_7,p3_8,n3_8,c3_8,i3_9,p3_10,n3_10,c3_10,i3_11,p3_12,n3_12,c3_12,p3_13,n3_13,c3_13,p3_14,n3_14,c3_14,p3_15,n3_15,c3_15,i3_16,rfl⟩:=hrep.c_stmtQ
 have hV3:=hrep.k (N':=(fun k=>w.heap.size≤k∧k≠w.heap.size∧k≠w1.heap.size)) (Fr.refl [] _)
 obtain⟨hT,HB3,HI3,HF3,hz3⟩:=IR.st [w1.heap.size] HB2.out HF2.out hf hi
 try simp at hz3
 have HD3:=hid (HD2.out.k hf)
 have HV3:=hid hV3
 clear hT hf hi hV3 hrep
 go_wp2_with (refine wpList_store_row rfl 52 _ _ rfl (w.heap.size) #[.int .i64 i3_0,.string s3_1,.slice p3_2 n3_2 c3_2,.slice p3_3 n3_3 c3_3,.int .i64 i3_4,.string s3_5,.string s3_6,.string s3_7,.slice p3_8 n3_8 c3_8,.int .i64 i3_9,.slice p3_10 n3_10 c3_10,.int .i64 i3_11,.slice p3_12 n3_12 c3_12,.slice p3_13 n3_13 c3_13,.slice p3_14 n3_14 c3_14,.slice p3_15 n3_15 c3_15,.int .i64 i3_16] rfl rfl 52 _ (show Blk _ (w.heap.size) 52 #[zI,zS,zN,zN,zI,zS,zS,zS,zN,zI,zN,zI,zN,zN,zN,zN,zI] from HB3.out.f [w1.heap.size]) rstmt_size rfl (by simp[Value.oneCell']) ?_)
 refine bodyPost_ret (v:=.agg #[.int .i64 i3_0,.string s3_1,.slice p3_2 n3_2 c3_2,.slice p3_3 n3_3 c3_3,.int .i64 i3_4,.string s3_5,.string s3_6,.string s3_7,.slice p3_8 n3_8 c3_8,.int .i64 i3_9,.slice p3_10 n3_10 c3_10,.int .i64 i3_11,.slice p3_12 n3_12 c3_12,.slice p3_13 n3_13 c3_13,.slice p3_14 n3_14 c3_14,.slice p3_15 n3_15 c3_15,.int .i64 i3_16]) ?_ rfl ?_
 ·exact results_cell_row (p:=2) rfl _ _ (w.heap.size) 52 #[.int .i64 i3_0,.string s3_1,.slice p3_2 n3_2 c3_2,.slice p3_3 n3_3 c3_3,.int .i64 i3_4,.string s3_5,.string s3_6,.string s3_7,.slice p3_8 n3_8 c3_8,.int .i64 i3_9,.slice p3_10 n3_10 c3_10,.int .i64 i3_11,.slice p3_12 n3_12 c3_12,.slice p3_13 n3_13 c3_13,.slice p3_14 n3_14 c3_14,.slice p3_15 n3_15 c3_15,.int .i64 i3_16] (0,0) _ rfl (setRow_heap _ _ _ _ _ _ (show Blk _ (w.heap.size) 52 #[zI,zS,zN,zN,zI,zS,zS,zS,zN,zI,zN,zI,zN,zN,zN,zN,zI] from HB3.out.f [w1.heap.size])) Tryz.underlying52 rfl rstmt_size
 exact RD.mk (x3) s3 (by refine Rel.bind hq1.out ?_;unfold refS;refine Rel.bn (no_word (fun ts e=>by cases e;rw[show Px.word (t :: r)=_ from ht];decide)) ?_;refine Rel.bn (no_word (fun ts e=>by cases e;rw[show Px.word (t :: r)=_ from ht];decide)) ?_;refine Rel.bn (no_word (fun ts e=>by cases e;rw[show Px.word (t :: r)=_ from ht];decide)) ?_;refine Rel.bn (no_word (fun ts e=>by cases e;rw[show Px.word (t :: r)=_ from ht];decide)) ?_;refine Rel.bn (no_word (fun ts e=>by cases e;rw[show Px.word (t :: r)=_ from ht];decide)) ?_;refine Rel.bn (no_word (fun ts e=>by cases e;rw[show Px.word (t :: r)=_ from ht];decide)) ?_;refine Rel.bn (no_word (fun ts e=>by cases e;rw[show Px.word (t :: r)=_ from ht];decide)) ?_;refine Rel.by (Rel.take_true (show ([[100,114,111,112]]:List Txt).contains t.text=true by rw[ht];decide)) ?_;exact hq3.out) (HF3.out.jf [w1.heap.size,w.heap.size]) (HI3.out.f [w1.heap.size,w.heap.size] H.out) ⟨_,rfl,(HV3.out.f [w1.heap.size,w.heap.size])⟩
set_option maxRecDepth 100000 in
set_option maxHeartbeats 6400000 in
theorem rstmt_print (c:RCtx) (t:Tk) (r:List Tk) (w:World) (h:IR c (RS.live (t :: r)) w) (ht:t.text=[112,114,105,110,116]) (n m:Nat) (hst:RL c 99 (RS.mu (RS.live (t :: r))) (okAgg stmtQ) (Px.stmtF c.size n m)) (hm:(RS.mu (RS.live (t :: r)))≤n) :
  Calls Tryz.prog 99 #[.pointer (some ⟨c.R,0,none⟩)] w (RD c w (okAgg stmtQ) (do let o ← Px.offsetR c.size;refS c.size n m o) (RS.live (t :: r))):=by
 have HST:=hid hst
 clear hst
 have H:=hid h
 have HR0:=H.out.lt.1
 clear h
 go_enter Tryz.func99,Tryz.ntmps99
 go_wp2_with fail
 refine(rat_same c (RS.live (t :: r)) _ (by exact H.out.f [] H.out)).mono ?_
 rintro e w1 hp
 obtain⟨x1,rfl,hq1,hf,hi⟩:=hp
 have hT:Fr [c.R] w w1:=Fr.trans frk hf.wide
 have hz1:=hf.size;try simp at hz1
 have HB1:Hid (Blk w1 (w.heap.size) 52 #[zI,zS,zN,zN,zI,zS,zS,zS,zN,zI,zN,zI,zN,zN,zN,zN,zI]):=hid ((Blk.new w _ _).keep hf (by first|(simp;done)|omega|(simp;omega)))
 have HI1:=hid hi
 have HF1:=hid ((Fr.refl [c.R] w).j hT)
 clear hT hf hi
 have hneDB:w1.heap.size≠w.heap.size:=by omega
 have hneBD:=hneDB.symm
 go_wp2_with (refine wpList_store_row rfl 52 _ _ rfl (w1.heap.size) #[.int .i64 0,.string ⟨#[]⟩,.slice none 0 0,.slice none 0 0,.int .i64 0,.string ⟨#[]⟩,.string ⟨#[]⟩,.string ⟨#[]⟩,.slice none 0 0,.int .i64 0,.slice none 0 0,.int .i64 0,.slice none 0 0,.slice none 0 0,.slice none 0 0,.slice none 0 0,.int .i64 x1] rfl rfl 52 _ (Blk.new_at (by simp)) rstmt_size rfl (by simp[Value.oneCell']) ?_)
 refine(rnext_no c (RS.live (t :: r)) [108,101,116] _ (by exact HI1.out.f [w1.heap.size] H.out) (by decide) (by decide) (fun ts e=>by cases e;rw[show Px.word (t :: r)=_ from ht];decide)).mono ?_
 rintro e wj0 ⟨rfl,hf,hi⟩
 have HG0:=hid hf
 have HJ0:=hid hi
 clear hf hi
 go_wp2_with fail
 refine(rnext_no c (RS.live (t :: r)) [42] _ HJ0.out (by decide) (by decide) (fun ts e=>by cases e;rw[show Px.word (t :: r)=_ from ht];decide)).mono ?_
 rintro e wj1 ⟨rfl,hf,hi⟩
 have HG1:=hid (HG0.out.trans hf)
 have HJ1:=hid hi
 clear hf hi
 go_wp2_with fail
 refine(rnext_no c (RS.live (t :: r)) [105,102] _ HJ1.out (by decide) (by decide) (fun ts e=>by cases e;rw[show Px.word (t :: r)=_ from ht];decide)).mono ?_
 rintro e wj2 ⟨rfl,hf,hi⟩
 have HG2:=hid (HG1.out.trans hf)
 have HJ2:=hid hi
 clear hf hi
 go_wp2_with fail
 refine(rnext_no c (RS.live (t :: r)) [119,104,105,108,101] _ HJ2.out (by decide) (by decide) (fun ts e=>by cases e;rw[show Px.word (t :: r)=_ from ht];decide)).mono ?_
 rintro e wj3 ⟨rfl,hf,hi⟩
 have HG3:=hid (HG2.out.trans hf)
 have HJ3:=hid hi
 clear hf hi
 go_wp2_with fail
 refine(rnext_no c (RS.live (t :: r)) [109,97,116,99,104] _ HJ3.out (by decide) (by decide) (fun ts e=>by cases e;rw[show Px.word (t :: r)=_ from ht];decide)).mono ?_
 rintro e wj4 ⟨rfl,hf,hi⟩
 have HG4:=hid (HG3.out.trans hf)
 have HJ4:=hid hi
 clear hf hi
 go_wp2_with fail
 refine(rnext_no c (RS.live (t :: r)) [114,101,116,117,114,110] _ HJ4.out (by decide) (by decide) (fun ts e=>by cases e;rw[show Px.word (t :: r)=_ from ht];decide)).mono ?_
 rintro e wj5 ⟨rfl,hf,hi⟩
 have HG5:=hid (HG4.out.trans hf)
 have HJ5:=hid hi
 clear hf hi
 go_wp2_with fail
 refine(rnext_no c (RS.live (t :: r)) [112,97,110,105,99] _ HJ5.out (by decide) (by decide) (fun ts e=>by cases e;rw[show Px.word (t :: r)=_ from ht];decide)).mono ?_
 rintro e wj6 ⟨rfl,hf,hi⟩
 have HG6:=hid (HG5.out.trans hf)
 have HJ6:=hid hi
 clear hf hi
 go_wp2_with fail
 refine(rnext_no c (RS.live (t :: r)) [100,114,111,112] _ HJ6.out (by decide) (by decide) (fun ts e=>by cases e;rw[show Px.word (t :: r)=_ from ht];decide)).mono ?_
 rintro e wj7 ⟨rfl,hf,hi⟩
 have HG7:=hid (HG6.out.trans hf)
 have HJ7:=hid hi
 clear hf hi
 go_wp2_with fail
 refine(rnext_yes c t r [112,114,105,110,116] _ HJ7.out ht (by decide) (by decide)).mono ?_
 rintro e w2 ⟨rfl,hf0,hi⟩
 have hf:=HG7.out.trans hf0
 obtain⟨hT,HB2,HI2,HF2,hz2⟩:=IR.st [w1.heap.size] HB1.out HF1.out hf hi
 try simp at hz2
 have HD2:Hid (Blk w2 (w1.heap.size) 52 #[zI,zS,zN,zN,zI,zS,zS,zS,zN,zI,zN,zI,zN,zN,zN,zN,.int .i64 x1]):=hid ((show Blk _ (w1.heap.size) 52 #[zI,zS,zN,zN,zI,zS,zS,zS,zN,zI,zN,zI,zN,zN,zN,zN,.int .i64 x1] from setRow_heap _ _ _ _ _ _ (Blk.new_at (by simp))).k hf)
 clear hT hf hi hf0
 have hlr:(RS.live r).mu<(RS.live (t :: r)).mu:=by simp[RS.mu]
 have hlD:=HD2.out.lt
 go_wp2_with fail
 clear hlD
 refine(rsimple_any c 10 x1 (RS.live r) _ (by exact HI2.out.f [w1.heap.size] H.out)).mono ?_
 rintro e w3 ⟨v3,x3,s3,rfl,hq3,hf,hi,hv⟩
 obtain⟨cs,rfl,hrep⟩:=hv
 obtain⟨i3_0,s3_1,p3_2,n3_2,c3_2,p3_3,n3_3,c3_3,i3_4,s3_5,s3_6,s3_7,p3_8,n3_8,c3_8,i3_9,p3_10,n3_10,c3_10,i3_11,p3_12,n3_12,c3_12,p3_13,n3_13,c3_13,p3_14,n3_14,c3_14,p3_15,n3_15,c3_15,i3_16,rfl⟩:=hrep.c_stmtQ
 have hV3:=hrep.k (N':=(fun k=>w.heap.size≤k∧k≠w.heap.size∧k≠w1.heap.size)) (Fr.refl [] _)
 obtain⟨hT,HB3,HI3,HF3,hz3⟩:=IR.st [w1.heap.size] HB2.out HF2.out hf hi
 try simp at hz3
 have HD3:=hid (HD2.out.k hf)
 have HV3:=hid hV3
 clear hT hf hi hV3 hrep
 go_wp2_with (refine wpList_store_row rfl 52 _ _ rfl (w.heap.size) #[.int .i64 i3_0,.string s3_1,.slice p3_2 n3_2 c3_2,.slice p3_3 n3_3 c3_3,.int .i64 i3_4,.string s3_5,.string s3_6,.string s3_7,.slice p3_8 n3_8 c3_8,.int .i64 i3_9,.slice p3_10 n3_10 c3_10,.int .i64 i3_11,.slice p3_12 n3_12 c3_12,.slice p3_13 n3_13 c3_13,.slice p3_14 n3_14 c3_14,.slice p3_15 n3_15 c3_15,.int .i64 i3_16] rfl rfl 52 _ (show Blk _ (w.heap.size) 52 #[zI,zS,zN,zN,zI,zS,zS,zS,zN,zI,zN,zI,zN,zN,zN,zN,zI] from HB3.out.f [w1.heap.size]) rstmt_size rfl (by simp[Value.oneCell']) ?_)
 refine bodyPost_ret (v:=.agg #[.int .i64 i3_0,.string s3_1,.slice p3_2 n3_2 c3_2,.slice p3_3 n3_3 c3_3,.int .i64 i3_4,.string s3_5,.string s3_6,.string s3_7,.slice p3_8 n3_8 c3_8,.int .i64 i3_9,.slice p3_10 n3_10 c3_10,.int .i64 i3_11,.slice p3_12 n3_12 c3_12,.slice p3_13 n3_13 c3_13,.slice p3_14 n3_14 c3_14,.slice p3_15 n3_15 c3_15,.int .i64 i3_16]) ?_ rfl ?_
 ·exact results_cell_row (p:=2) rfl _ _ (w.heap.size) 52 #[.int .i64 i3_0,.string s3_1,.slice p3_2 n3_2 c3_2,.slice p3_3 n3_3 c3_3,.int .i64 i3_4,.string s3_5,.string s3_6,.string s3_7,.slice p3_8 n3_8 c3_8,.int .i64 i3_9,.slice p3_10 n3_10 c3_10,.int .i64 i3_11,.slice p3_12 n3_12 c3_12,.slice p3_13 n3_13 c3_13,.slice p3_14 n3_14 c3_14,.slice p3_15 n3_15 c3_15,.int .i64 i3_16] (0,0) _ rfl (setRow_heap _ _ _ _ _ _ (show Blk _ (w.heap.size) 52 #[zI,zS,zN,zN,zI,zS,zS,zS,zN,zI,zN,zI,zN,zN,zN,zN,zI] from HB3.out.f [w1.heap.size])) Tryz.underlying52 rfl rstmt_size
 exact RD.mk (x3) s3 (by refine Rel.bind hq1.out ?_;unfold refS;refine Rel.bn (no_word (fun ts e=>by cases e;rw[show Px.word (t :: r)=_ from ht];decide)) ?_;refine Rel.bn (no_word (fun ts e=>by cases e;rw[show Px.word (t :: r)=_ from ht];decide)) ?_;refine Rel.bn (no_word (fun ts e=>by cases e;rw[show Px.word (t :: r)=_ from ht];decide)) ?_;refine Rel.bn (no_word (fun ts e=>by cases e;rw[show Px.word (t :: r)=_ from ht];decide)) ?_;refine Rel.bn (no_word (fun ts e=>by cases e;rw[show Px.word (t :: r)=_ from ht];decide)) ?_;refine Rel.bn (no_word (fun ts e=>by cases e;rw[show Px.word (t :: r)=_ from ht];decide)) ?_;refine Rel.bn (no_word (fun ts e=>by cases e;rw[show Px.word (t :: r)=_ from ht];decide)) ?_;refine Rel.bn (no_word (fun ts e=>by cases e;rw[show Px.word (t :: r)=_ from ht];decide)) ?_;refine Rel.by (Rel.take_true (show ([[112,114,105,110,116]]:List Txt).contains t.text=true by rw[ht];decide)) ?_;exact hq3.out) (HF3.out.jf [w1.heap.size,w.heap.size]) (HI3.out.f [w1.heap.size,w.heap.size] H.out) ⟨_,rfl,(HV3.out.f [w1.heap.size,w.heap.size])⟩
set_option maxRecDepth 100000 in
set_option maxHeartbeats 6400000 in
theorem rstmt_fn (c:RCtx) (t:Tk) (r:List Tk) (w:World) (h:IR c (RS.live (t :: r)) w) (ht:t.text=[102,110]) (n m:Nat) (hst:RL c 99 (RS.mu (RS.live (t :: r))) (okAgg stmtQ) (Px.stmtF c.size n m)) (hm:(RS.mu (RS.live (t :: r)))≤n) :
  Calls Tryz.prog 99 #[.pointer (some ⟨c.R,0,none⟩)] w (RD c w (okAgg stmtQ) (do let o ← Px.offsetR c.size;refS c.size n m o) (RS.live (t :: r))):=by
 have HST:=hid hst
 clear hst
 have H:=hid h
 have HR0:=H.out.lt.1
 clear h
 go_enter Tryz.func99,Tryz.ntmps99
 go_wp2_with fail
 refine(rat_same c (RS.live (t :: r)) _ (by exact H.out.f [] H.out)).mono ?_
 rintro e w1 hp
 obtain⟨x1,rfl,hq1,hf,hi⟩:=hp
 have hT:Fr [c.R] w w1:=Fr.trans frk hf.wide
 have hz1:=hf.size;try simp at hz1
 have HB1:Hid (Blk w1 (w.heap.size) 52 #[zI,zS,zN,zN,zI,zS,zS,zS,zN,zI,zN,zI,zN,zN,zN,zN,zI]):=hid ((Blk.new w _ _).keep hf (by first|(simp;done)|omega|(simp;omega)))
 have HI1:=hid hi
 have HF1:=hid ((Fr.refl [c.R] w).j hT)
 clear hT hf hi
 have hneDB:w1.heap.size≠w.heap.size:=by omega
 have hneBD:=hneDB.symm
 go_wp2_with (refine wpList_store_row rfl 52 _ _ rfl (w1.heap.size) #[.int .i64 0,.string ⟨#[]⟩,.slice none 0 0,.slice none 0 0,.int .i64 0,.string ⟨#[]⟩,.string ⟨#[]⟩,.string ⟨#[]⟩,.slice none 0 0,.int .i64 0,.slice none 0 0,.int .i64 0,.slice none 0 0,.slice none 0 0,.slice none 0 0,.slice none 0 0,.int .i64 x1] rfl rfl 52 _ (Blk.new_at (by simp)) rstmt_size rfl (by simp[Value.oneCell']) ?_)
 refine(rnext_no c (RS.live (t :: r)) [108,101,116] _ (by exact HI1.out.f [w1.heap.size] H.out) (by decide) (by decide) (fun ts e=>by cases e;rw[show Px.word (t :: r)=_ from ht];decide)).mono ?_
 rintro e wj0 ⟨rfl,hf,hi⟩
 have HG0:=hid hf
 have HJ0:=hid hi
 clear hf hi
 go_wp2_with fail
 refine(rnext_no c (RS.live (t :: r)) [42] _ HJ0.out (by decide) (by decide) (fun ts e=>by cases e;rw[show Px.word (t :: r)=_ from ht];decide)).mono ?_
 rintro e wj1 ⟨rfl,hf,hi⟩
 have HG1:=hid (HG0.out.trans hf)
 have HJ1:=hid hi
 clear hf hi
 go_wp2_with fail
 refine(rnext_no c (RS.live (t :: r)) [105,102] _ HJ1.out (by decide) (by decide) (fun ts e=>by cases e;rw[show Px.word (t :: r)=_ from ht];decide)).mono ?_
 rintro e wj2 ⟨rfl,hf,hi⟩
 have HG2:=hid (HG1.out.trans hf)
 have HJ2:=hid hi
 clear hf hi
 go_wp2_with fail
 refine(rnext_no c (RS.live (t :: r)) [119,104,105,108,101] _ HJ2.out (by decide) (by decide) (fun ts e=>by cases e;rw[show Px.word (t :: r)=_ from ht];decide)).mono ?_
 rintro e wj3 ⟨rfl,hf,hi⟩
 have HG3:=hid (HG2.out.trans hf)
 have HJ3:=hid hi
 clear hf hi
 go_wp2_with fail
 refine(rnext_no c (RS.live (t :: r)) [109,97,116,99,104] _ HJ3.out (by decide) (by decide) (fun ts e=>by cases e;rw[show Px.word (t :: r)=_ from ht];decide)).mono ?_
 rintro e wj4 ⟨rfl,hf,hi⟩
 have HG4:=hid (HG3.out.trans hf)
 have HJ4:=hid hi
 clear hf hi
 go_wp2_with fail
 refine(rnext_no c (RS.live (t :: r)) [114,101,116,117,114,110] _ HJ4.out (by decide) (by decide) (fun ts e=>by cases e;rw[show Px.word (t :: r)=_ from ht];decide)).mono ?_
 rintro e wj5 ⟨rfl,hf,hi⟩
 have HG5:=hid (HG4.out.trans hf)
 have HJ5:=hid hi
 clear hf hi
 go_wp2_with fail
 refine(rnext_no c (RS.live (t :: r)) [112,97,110,105,99] _ HJ5.out (by decide) (by decide) (fun ts e=>by cases e;rw[show Px.word (t :: r)=_ from ht];decide)).mono ?_
 rintro e wj6 ⟨rfl,hf,hi⟩
 have HG6:=hid (HG5.out.trans hf)
 have HJ6:=hid hi
 clear hf hi
 go_wp2_with fail
 refine(rnext_no c (RS.live (t :: r)) [100,114,111,112] _ HJ6.out (by decide) (by decide) (fun ts e=>by cases e;rw[show Px.word (t :: r)=_ from ht];decide)).mono ?_
 rintro e wj7 ⟨rfl,hf,hi⟩
 have HG7:=hid (HG6.out.trans hf)
 have HJ7:=hid hi
 clear hf hi
 go_wp2_with fail
 refine(rnext_no c (RS.live (t :: r)) [112,114,105,110,116] _ HJ7.out (by decide) (by decide) (fun ts e=>by cases e;rw[show Px.word (t :: r)=_ from ht];decide)).mono ?_
 rintro e wj8 ⟨rfl,hf,hi⟩
 have HG8:=hid (HG7.out.trans hf)
 have HJ8:=hid hi
 clear hf hi
 go_wp2_with fail
 refine(rnext_no c (RS.live (t :: r)) [115,101,110,100] _ HJ8.out (by decide) (by decide) (fun ts e=>by cases e;rw[show Px.word (t :: r)=_ from ht];decide)).mono ?_
 rintro e wj9 ⟨rfl,hf,hi⟩
 have HG9:=hid (HG8.out.trans hf)
 have HJ9:=hid hi
 clear hf hi
 go_wp2_with fail
 refine(rnext_no c (RS.live (t :: r)) [115,112,97,119,110] _ HJ9.out (by decide) (by decide) (fun ts e=>by cases e;rw[show Px.word (t :: r)=_ from ht];decide)).mono ?_
 rintro e wj10 ⟨rfl,hf,hi⟩
 have HG10:=hid (HG9.out.trans hf)
 have HJ10:=hid hi
 clear hf hi
 go_wp2_with fail
 refine(rnext_yes c t r [102,110] _ HJ10.out ht (by decide) (by decide)).mono ?_
 rintro e w2 ⟨rfl,hf0,hi⟩
 have hf:=HG10.out.trans hf0
 obtain⟨hT,HB2,HI2,HF2,hz2⟩:=IR.st [w1.heap.size] HB1.out HF1.out hf hi
 try simp at hz2
 have HD2:Hid (Blk w2 (w1.heap.size) 52 #[zI,zS,zN,zN,zI,zS,zS,zS,zN,zI,zN,zI,zN,zN,zN,zN,.int .i64 x1]):=hid ((show Blk _ (w1.heap.size) 52 #[zI,zS,zN,zN,zI,zS,zS,zS,zN,zI,zN,zI,zN,zN,zN,zN,.int .i64 x1] from setRow_heap _ _ _ _ _ _ (Blk.new_at (by simp))).k hf)
 clear hT hf hi hf0
 have hlr:(RS.live r).mu<(RS.live (t :: r)).mu:=by simp[RS.mu]
 have hlD:=HD2.out.lt
 obtain⟨d0,f0⟩:=HD2.out.df 0 (v:=.int .i64 0) rfl
 go_wp2_with fail
 clear hlD d0 f0
 refine(rlocal_any c n x1 (RS.live r) _ (by exact HI2.out.f [w1.heap.size] H.out) _ _ HST.out (strict_stmtF c.size n m) (shr_stmtF c.size n m) (by omega) (by omega)).mono ?_
 rintro e w3 ⟨v3,x3,s3,rfl,hq3,hf,hi,hv⟩
 obtain⟨cs,rfl,hrep⟩:=hv
 obtain⟨s3_0,p3_1,n3_1,c3_1,p3_2,n3_2,c3_2,p3_3,n3_3,c3_3,p3_4,n3_4,c3_4,s3_5,p3_6,n3_6,c3_6,i3_7,p3_8,n3_8,c3_8,i3_9,rfl⟩:=hrep.c_funcQ
 have hV3:=hrep.k (N':=(fun k=>w.heap.size≤k∧k≠w.heap.size∧k≠w1.heap.size)) (Fr.refl [] _)
 obtain⟨hT,HB3,HI3,HF3,hz3⟩:=IR.st [w1.heap.size] HB2.out HF2.out hf hi
 try simp at hz3
 have HD3:Hid (Blk w3 (w1.heap.size) 52 #[.int .i64 13,zS,zN,zN,zI,zS,zS,zS,zN,zI,zN,zI,zN,zN,zN,zN,.int .i64 x1]):=hid ((HD2.out.set 0 (.int .i64 13)).k hf)
 have HV3:=hid hV3
 clear hT hf hi hV3 hrep
 have hlD:=HD3.out.lt
 obtain⟨d15,f15⟩:=HD3.out.df 15 (v:=.slice none 0 0) rfl
 go_wp2_with (first|(refine wpList_load_row rfl 52 _ rfl (w1.heap.size) rfl 52 #[.int .i64 13,.string ⟨#[]⟩,.slice none 0 0,.slice none 0 0,.int .i64 0,.string ⟨#[]⟩,.string ⟨#[]⟩,.string ⟨#[]⟩,.slice none 0 0,.int .i64 0,.slice none 0 0,.int .i64 0,.slice none 0 0,.slice none 0 0,.slice none 0 0,.slice (some ⟨w3.heap.size,0,none⟩) 1 1,.int .i64 x1] (0,0) _ (Blk.alloc (HD3.out.set 15 (.slice (some ⟨w3.heap.size,0,none⟩) 1 1)) _) Tryz.underlying52 rfl rstmt_size ?_)|(refine wpList_store_row rfl 52 _ _ rfl (w.heap.size) _ rfl rfl 52 _ (HB3.out.row [w1.heap.size]) rstmt_size rfl (by simp[Value.oneCell']) ?_))
 refine bodyPost_ret (results_cell_row (p:=2) rfl _ _ (w.heap.size) 52 _ (0,0) _ rfl (setRow_heap _ _ _ _ _ _ (HB3.out.row [w1.heap.size])) Tryz.underlying52 rfl rstmt_size) rfl ?_
 clear hlD d15 f15
 exact RD.mk (.mk 13 [] [] [] Px.expr0 [] [] [] [x3] x1) s3 (by refine Rel.bind hq1.out ?_;unfold refS;refine Rel.bn (no_word (fun ts e=>by cases e;rw[show Px.word (t :: r)=_ from ht];decide)) ?_;refine Rel.bn (no_word (fun ts e=>by cases e;rw[show Px.word (t :: r)=_ from ht];decide)) ?_;refine Rel.bn (no_word (fun ts e=>by cases e;rw[show Px.word (t :: r)=_ from ht];decide)) ?_;refine Rel.bn (no_word (fun ts e=>by cases e;rw[show Px.word (t :: r)=_ from ht];decide)) ?_;refine Rel.bn (no_word (fun ts e=>by cases e;rw[show Px.word (t :: r)=_ from ht];decide)) ?_;refine Rel.bn (no_word (fun ts e=>by cases e;rw[show Px.word (t :: r)=_ from ht];decide)) ?_;refine Rel.bn (no_word (fun ts e=>by cases e;rw[show Px.word (t :: r)=_ from ht];decide)) ?_;refine Rel.bn (no_word (fun ts e=>by cases e;rw[show Px.word (t :: r)=_ from ht];decide)) ?_;refine Rel.bn (no_word (fun ts e=>by cases e;rw[show Px.word (t :: r)=_ from ht];decide)) ?_;refine Rel.bn (no_word (fun ts e=>by cases e;rw[show Px.word (t :: r)=_ from ht];decide)) ?_;refine Rel.bn (no_word (fun ts e=>by cases e;rw[show Px.word (t :: r)=_ from ht];decide)) ?_;refine Rel.by (Rel.take_true (show ([[102,110]]:List Txt).contains t.text=true by rw[ht];decide)) ?_;unfold Px.localS;exact Rel.bind (refLo_eq _ _ _ _ ▸ hq3.out) (Rel.pure _ _)) (HF3.out.jf [w1.heap.size,w.heap.size]) (HI3.out.f [w1.heap.size,w.heap.size] H.out) ⟨_,rfl,(by rw[stmtQ_mk];unfold strsQ typesS stmtsS armsS funcsS;exact rep_int.2 ⟨_,rfl,rep_str.2 ⟨_,rfl,rep_sl.2 ⟨_,_,rfl,RowV.nil _ _ _ _,rep_sl.2 ⟨_,_,rfl,RowV.nil _ _ _ _,Rep.app (cs:=[.int .i64 0,.string ⟨#[]⟩,.string ⟨#[]⟩,.string ⟨#[]⟩,.slice none 0 0,.int .i64 0,.slice none 0 0,.int .i64 0]) (expr0_rep) (rep_sl.2 ⟨_,_,rfl,RowV.nil _ _ _ _,rep_sl.2 ⟨_,_,rfl,RowV.nil _ _ _ _,rep_sl.2 ⟨_,_,rfl,RowV.nil _ _ _ _,rep_sl.2 ⟨_,_,rfl,(rowk_one (N:=(fun k=>w.heap.size≤k)) (f:=funcQ) (a:=x3) (w:=_) (g:=w3.heap.size) (xs:=[.string s3_0,.slice p3_1 n3_1 c3_1,.slice p3_2 n3_2 c3_2,.slice p3_3 n3_3 c3_3,.slice p3_4 n3_4 c3_4,.string s3_5,.slice p3_6 n3_6 c3_6,.int .i64 i3_7,.slice p3_8 n3_8 c3_8,.int .i64 i3_9]) (by repeat' (first|with_reducible refine Blk.new_at ?_|with_reducible refine Blk.alloc ?_ _|with_reducible refine Blk.other ?_ ?_ _|with_reducible refine Blk.setRow_other ?_ ?_|(simp;done)|(simp;omega))) (by (try simp);omega) rfl (HV3.out.f [w1.heap.size,w.heap.size])),rep_int.2 ⟨_,rfl,rep_nil.2 rfl⟩⟩⟩⟩⟩)⟩⟩⟩⟩)⟩
end Go.Proofs.YtghohohagbbajaaGreatDoor
